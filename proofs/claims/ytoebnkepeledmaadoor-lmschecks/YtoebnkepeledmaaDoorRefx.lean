/- The reference's Sum gives the sum of the document. -/
import Derived.Test.YtoebnkepeledmaaDoorLoopEx
import Derived.Test.YtoebnkepeledmaaDoorLoopFx
import Derived.Deep.CutRange
namespace Go.Proofs.YtoebnkepeledmaaDoor
open Go.RowKit

def lenOf : Value → Nat | .slice _ n _ => n | _ => 0
theorem own8_nil (w : World) (B g : Nat) (hg : B ≤ g) (h : Row w g 5 #[]) : Own8 w B 5 (.slice (some ⟨g, 0, none⟩) 0 0) [] :=
  ⟨rfl, .inr ⟨g, 0, #[], rfl, hg, h, Nat.le_refl _, Nat.zero_le _, rfl, rfl⟩⟩

theorem own8_alloc {w : World} {B : Nat} {e : TypeId} {v : Value} {l : List Int} (h : Own8 w B e v l) (o : Obj) : Own8 (w.alloc o) B e v l := h.below ((Below.refl _ _).alloc (Nat.le_refl _) _) (Nat.le_refl _)
theorem bytes_one (w : World) (x : Int) : Bytes (w.alloc (.cells #[.int .u8 x] 5)) (some ⟨w.heap.size, 0, none⟩) [x] := (Row.new w 5 (v8 [x])).bytes

set_option maxRecDepth 20000 in
set_option maxHeartbeats 8000000 in
theorem ref_any (bs : List Int) (sp : Option Addr) (len cap : Nat) (w : World) (hlen : bs.length = len) (hmax : len ≤ 1099511627776) (hnil : sp = none → cap = 0 ∧ len = 0) (hby : Bytes w sp bs) :
    Calls Tryd.prog 36 #[.slice sp len cap] w fun e w' => e = .returned (.agg (v8 (shaS bs))) ∧ Below w.heap.size w w' := by
  have hold : (v32 zeros64).size = (v32 kWords).size := by rw [v32_size, v32_size]; rfl
  go_enter Tryd.func36, Tryd.ntmps36
  go_upto_region 3 with (first | (go_at_call 60; refine (words_any _).mono ?_; rintro e w1 ⟨rfl, hb1⟩) | (refine store_row0 98 (.tmp 3) (.tmp 23) (by rfl) (by rfl) (by rfl) w1.heap.size (v32 kWords) (by rfl) (by rfl) 98 (v32 zeros64) (Row.new w1 98 _) (info43 kWords_length) hold (v32_one _) ?_))
  have hs1 := hb1.size
  simp only [World.size_alloc] at hs1 hb1
  have x0 : Row ((w1.alloc (.cells (v32 zeros64) 98)).setRow w1.heap.size (v32 kWords) |>.alloc (.cells s0.row 100)) w.heap.size 24 (v8 (List.replicate 32 0)) :=
    ((((Row.new w 24 _).below hb1 (by omega)).alloc _).setRowOther (by omega) _).alloc _
  have x1 : Row ((w1.alloc (.cells (v32 zeros64) 98)).setRow w1.heap.size (v32 kWords) |>.alloc (.cells s0.row 100)) w1.heap.size 98 (v32 kWords) := ((Row.new w1 98 _).setRow _).alloc _
  have x2 : Row ((w1.alloc (.cells (v32 zeros64) 98)).setRow w1.heap.size (v32 kWords) |>.alloc (.cells s0.row 100)) (w1.heap.size + 1) 100 s0.row := Row.newAt _ 100 _ _ (by simp)
  have xb : Below w.heap.size w ((w1.alloc (.cells (v32 zeros64) 98)).setRow w1.heap.size (v32 kWords) |>.alloc (.cells s0.row 100)) :=
    (below_setRow ((((Below.refl _ _).alloc (Nat.le_refl _) _).trans (hb1.mono (by omega))).alloc (by omega) _) (by omega) _).alloc (by simp; omega) _
  have xs : ((w1.alloc (.cells (v32 zeros64) 98)).setRow w1.heap.size (v32 kWords) |>.alloc (.cells s0.row 100)).heap.size = w1.heap.size + 2 := by simp
  change Code.wp _ _ _ _ ((w1.alloc (.cells (v32 zeros64) 98)).setRow w1.heap.size (v32 kWords) |>.alloc (.cells s0.row 100))
  generalize ((w1.alloc (.cells (v32 zeros64) 98)).setRow w1.heap.size (v32 kWords) |>.alloc (.cells s0.row 100)) = w2 at x0 x1 x2 xb xs ⊢
  clear hb1 hold
  have hlt2 : w1.heap.size + 1 < w2.heap.size := by omega
  clear xs
  have o2 := own8_nil (w2.alloc (.cells #[] 5)) w2.heap.size w2.heap.size (Nat.le_refl _) (Row.new w2 5 #[])
  have hby2 : Bytes (w2.alloc (.cells #[] 5)) sp bs := (hby.below xb).below ((Below.refl _ _).alloc (Nat.le_refl _) _)
  go_upto_region 4 with (at_builtin; go_must (refine append8 (.tmp 25) (.tmp 26) 28 5 (by rfl) (by rfl) w2.heap.size Tryd.underlying28 info5 _ [] (by rfl) ?ho sp len cap bs (by rfl) hlen hnil hby2 (by simp; omega) (by simp) ?_; (case ho => exact o2); intro sp3 cap3 w3 o3 b3; simp only [List.nil_append] at o3 ⊢; simp only [hlen] at o3 ⊢))
  have c3 : Below w2.heap.size w2 w3 := ((Below.refl _ _).alloc (Nat.le_refl _) _).trans b3
  have hs3 := c3.size
  clear o2 b3 hby2
  have o3' := own8_alloc o3 (.cells #[.int .u8 128] 5)
  have hby3 := bytes_one w3 128
  go_upto_region 5 with (at_builtin; go_must (refine append8 (.tmp 28) (.tmp 29) 28 5 (by rfl) (by rfl) w2.heap.size Tryd.underlying28 info5 _ bs (by rfl) ?ho (some ⟨w3.heap.size, 0, none⟩) 1 1 [128] (by rfl) rfl (fun h => by cases h) hby3 (by rw [hlen]; omega) (by simp; omega) ?_; (case ho => exact o3'); intro sp4 cap4 w4 o4 b4; simp only [List.length_append, List.length_cons, List.length_nil, hlen, Nat.zero_add] at o4 ⊢))
  have c4 : Below w2.heap.size w2 w4 := (c3.alloc hs3 _).trans b4
  clear o3 o3' hby3 b4
  go_loopw [5] (fun v wr => ∃ z sp' cap', z ≤ padZ len ∧ v = .slice sp' (len + 1 + z) cap' ∧ Own8 wr w2.heap.size 5 v (bs ++ [128] ++ List.replicate z 0) ∧ Below w2.heap.size w2 wr) (fun v _ => len + 70 - lenOf v)
  case atStart => exact ⟨0, sp4, cap4, Nat.zero_le _, rfl, by simpa using o4, c4⟩
  case round =>
    obtain ⟨z, sp', cap', hz, rfl, oz, cz⟩ := hrel
    clear o4 c4
    have hsz := cz.size
    have hpz : padZ len < 64 := by unfold padZ; omega
    by_cases hlt : z < padZ len
    · have hne : (((len : Int) + 1 + (z : Int)) % 64 != 56) = true := by
        have : ((len : Int) + 1 + (z : Int)) % 64 ≠ 56 := by unfold padZ at hlt; omega
        simpa using this
      have oz' := own8_alloc oz (.cells #[.int .u8 0] 5)
      have hbz := bytes_one wr 0
      go_wp2_with (at_builtin; go_must (refine append8 (.tmp 35) (.tmp 36) 28 5 (by rfl) (by rfl) w2.heap.size Tryd.underlying28 info5 _ (bs ++ [128] ++ List.replicate z 0) (by rfl) ?ho (some ⟨wr.heap.size, 0, none⟩) 1 1 [0] (by rfl) rfl (fun h => by cases h) hbz (by simp [hlen]; omega) (by simp; omega) ?_; (case ho => exact oz'); intro sp5 cap5 w5 o5 b5; simp only [List.length_append, List.length_cons, List.length_nil, List.length_replicate, hlen, Nat.zero_add] at o5 ⊢))
      go_roundw
      case rel =>
        refine ⟨z + 1, sp5, cap5, by omega, rfl, ?_, (cz.alloc hsz _).trans b5⟩
        rw [List.replicate_succ', ← List.append_assoc]; exact o5
      case measure => simp [lenOf]; omega
    · obtain rfl : z = padZ len := by omega
      have hne : (((len : Int) + 1 + (padZ len : Int)) % 64 != 56) = false := by
        have : ((len : Int) + 1 + (padZ len : Int)) % 64 = 56 := by unfold padZ; omega
        simpa using this
      obtain ⟨Z, hZ⟩ : ∃ Z, Z = padZ len := ⟨_, rfl⟩
      rw [← hZ] at hne oz hpz ⊢
      obtain ⟨Pz, hPz⟩ : ∃ Pz, Pz = bs ++ [128] ++ List.replicate Z 0 := ⟨_, rfl⟩
      rw [← hPz] at oz
      have hPl : Pz.length = len + 1 + Z := by rw [hPz]; simp [hlen]; omega
      have HP : Hid (Pz = bs ++ [128] ++ List.replicate Z 0 ∧ Z = padZ len) := ⟨hPz, hZ⟩
      clear hPz hZ hlt hz
      go_wp2
      go_loopw [5, 7] (fun v i wr => ∃ (k : Nat) (sp' : Option Addr) (cap' : Nat), k ≤ 8 ∧ i = .int .i64 (7 - (k : Int)) ∧ v = .slice sp' (len + 1 + Z + k) cap' ∧ Own8 wr w2.heap.size 5 v (Pz ++ lenTail (len * 8) k) ∧ Below w2.heap.size w2 wr) (fun v _ _ => len + 80 - lenOf v)
      case atStart => exact ⟨0, sp', cap', Nat.zero_le _, rfl, rfl, by simpa [lenTail] using oz, cz⟩
      case round =>
        clear oz cz hsz hne
        obtain ⟨k, sq, cq, hk, rfl, rfl, oz, cz⟩ := hrel
        have hsz := cz.size
        have htl := lenTail_length (len * 8) k
        by_cases hlt : k < 8
        · have oz' := own8_alloc oz (.cells #[.int .u8 (lenB (len * 8) (7 - k))] 5)
          have hbz := bytes_one wr (lenB (len * 8) (7 - k))
          have e7 : (7 : Int) - (k : Int) = ((7 - k : Nat) : Int) := by omega
          rw [e7]
          go_wp2_with (at_builtin; go_must (refine append8 (.tmp 46) (.tmp 53) 28 5 (by rfl) (by rfl) w2.heap.size Tryd.underlying28 info5 _ (Pz ++ lenTail (len * 8) k) (by rfl) ?ho (some ⟨wr.heap.size, 0, none⟩) 1 1 [lenB (len * 8) (7 - k)] (by rfl) rfl (fun h => by cases h) hbz (by simp [hPl, htl]; omega) (by simp; omega) ?_; (case ho => exact oz'); intro sp5 cap5 w5 o5 b5; simp only [List.length_append, List.length_cons, List.length_nil, hPl, htl, Nat.zero_add] at o5 ⊢))
          go_roundw
          case rel =>
            refine ⟨k + 1, sp5, cap5, by omega, by go_num, rfl, ?_, (cz.alloc hsz _).trans b5⟩
            rw [lenTail, ← List.append_assoc]; exact o5
          case measure => simp [lenOf]; omega
        · obtain rfl : k = 8 := by omega
          go_wp2
          obtain ⟨T, hT⟩ : ∃ T, T = Pz ++ lenTail (len * 8) 8 := ⟨_, rfl⟩
          rw [← hT] at oz
          have hTl : T.length = len + 1 + Z + 8 := by rw [hT, List.length_append, hPl, htl]
          have hT64 : (len + 1 + Z + 8) % 64 = 0 := by rw [HP.out.2]; unfold padZ; omega
          have HT : Hid (T = Pz ++ lenTail (len * 8) 8) := hT
          clear hT
          obtain ⟨gt, rfl, hgt, hgt', hTc⟩ : ∃ gt, sq = some ⟨gt, 0, none⟩ ∧ w2.heap.size ≤ gt ∧ gt < wr.heap.size ∧ ∀ j, j < T.length → wr.cell? ⟨gt, j, none⟩ = some (.int .u8 (gi T j)) := by
            have hb := oz.bytes
            obtain ⟨_, h⟩ := oz
            rcases h with ⟨_, h0⟩ | ⟨g, cc, cur, hv, hg, hh, _⟩
            · omega
            · injection hv with e1
              subst e1
              obtain ⟨b, o, e, hc⟩ := hb (by omega)
              injection e with e; injection e with e1 e2
              subst e1; subst e2
              refine ⟨g, rfl, hg, ?_, fun j hj => by have := hc j hj; rwa [Nat.zero_add] at this⟩
              by_cases hx : g < wr.heap.size
              · exact hx
              · rw [Array.getElem?_eq_none (by omega)] at hh; cases hh
          have env0 : RefEnv w w1.heap.size gt T (wr.alloc (.cells (v32 zeros64) 98)) :=
            RefEnv.alloc ⟨x1.below cz (by omega), hTc, x0.below cz (by omega), xb.trans (cz.mono (by omega))⟩ _
          have y2 : Row (wr.alloc (.cells (v32 zeros64) 98)) (w1.heap.size + 1) 100 s0.row := (x2.below cz (by omega)).alloc _
          have y3 : Row (wr.alloc (.cells (v32 zeros64) 98)) wr.heap.size 98 (v32 zeros64) := Row.new _ _ _
          change Code.wp _ _ _ _ (wr.alloc (.cells (v32 zeros64) 98))
          obtain ⟨gw, hgw⟩ : ∃ gw, gw = wr.heap.size := ⟨_, rfl⟩
          rw [← hgw] at y3 hgt' ⊢
          generalize wr.alloc (.cells (v32 zeros64) 98) = w5 at env0 y2 y3 ⊢
          obtain ⟨n, hn⟩ : ∃ n, n = len + 1 + Z + 8 := ⟨_, rfl⟩
          rw [← hn] at hTl hT64 ⊢
          have hnb : n ≤ 2199023255552 := by omega
          clear oz cz hsz htl hTc x0 x1 x2 xb hgw hk hlt hs3 hn hby hnil c3 hpz
          refine loop3 w w5 w1.heap.size (w1.heap.size + 1) gt gw n cq T hTl hT64 hnb (by omega) (by omega) (by omega) (by omega) y2 y3 env0 _ _ _ _ _ _ _ _ _ _ _ _ _ _ _ _ _ _ _ _ _ _ _ _ _ _ _ _ _ _ _ _ _ _ _ _ _ _ _ _ _ _ _ _ _ _ _ _ _ _ _ _ _ _ _ _ _ _ _ _ _ _ _ _ _ _ _ _ _ _ _ _ _ _ _ _ _ _ _ _ _ _ _ _ _ _ _ _ _ _ _ _ _ _ _ _ _ _ _ _ _ _ _ _ _ _ _ _ _ _ _ _ _ _ _ _ _ _ _ _ _ _ _ _ _ _ _ _ _ _ _ _ _ _ _ _ _ _ _ _ _ _ _ _ _ _ _ _ _ _ _ _ _ _ _ _ _ _ _ _ _ _ _ _ _ _ _ _ _ _ _ _ _ _ _ _ _ _ _ _ _ _ _ _ _ _ _ _ _ _ _ _ _ _ _ _ _ _ _ _ _ _ _ _ _ _ _ _ _ _ _ _ _ _ _ _ _ _ _ _ _ _ _ _ _ _ _ _ _ _ _ _ _ _ _ _ _ _ _ _ _ _ _ _ _ _ _ _ _ _ _ _ _ _ _ _ _ _ _ _ _ _ _ _ _ _ _ _ _ _ _ _ _ _ ?_
          intro u9 u10 u11 u12 u13 u14 u15 u16 u17 u18 u19 u20 u55 u56 u57 u58 u59 u60 u61 u62 u63 u64 u65 u66 u67 u68 u69 u70 u71 u72 u73 u74 u75 u76 u77 u78 u79 u80 u81 u82 u83 u84 u85 u86 u87 u88 u89 u90 u91 u92 u93 u94 u95 u96 u97 u98 u99 u100 u101 u102 u103 u104 u105 u106 u107 u108 u109 u110 u111 u112 u113 u114 u115 u116 u117 u118 u119 u120 u121 u122 u123 u124 u125 u126 u127 u128 u129 u130 u131 u132 u133 u134 u135 u136 u137 u138 u139 u140 u141 u142 u143 u144 u145 u146 u147 u148 u149 u150 u151 u152 u153 u154 u155 u156 u157 u158 u159 u160 u161 u162 u163 u164 u165 u166 u167 u168 u169 u170 u171 u172 u173 u174 u175 u176 u177 u178 u179 u180 u181 u182 u183 u184 u185 u186 u187 u188 u189 u190 u191 u192 u193 u194 u195 u196 u197 u198 u199 u200 u201 u202 u203 u204 u205 u206 u207 u208 u209 u210 u211 u212 u213 u214 u215 u216 u217 u218 u219 u220 u221 u222 u223 u224 u225 u226 u227 u228 u229 u230 u231 u232 u233 u234 u235 u236 u237 u238 wr' rs env
          clear y2 y3 env0
          obtain ⟨S, hS⟩ : ∃ S, S = absorbN kWords s0 T (n / 64) := ⟨_, rfl⟩
          rw [← hS] at rs
          have HS : Hid (S = absorbN kWords s0 T (n / 64)) := hS
          clear hS
          obtain ⟨ek, ec, e25, eb⟩ := env
          clear ek ec
          have hlr := rs.lt
          have u0 : Row (wr'.alloc (.cells (v8 (List.replicate 32 0)) 24)) (w1.heap.size + 1) 100 S.row := rs.alloc _
          have u1 : Row (wr'.alloc (.cells (v8 (List.replicate 32 0)) 24)) w.heap.size 24 (v8 (List.replicate 32 0)) := e25.alloc _
          have u2 : Row (wr'.alloc (.cells (v8 (List.replicate 32 0)) 24)) wr'.heap.size 24 (v8 (List.replicate 32 0)) := Row.new _ _ _
          have u3 : Below w.heap.size w (wr'.alloc (.cells (v8 (List.replicate 32 0)) 24)) := eb.alloc eb.size _
          go_wp2
          change Code.wp _ _ _ _ (wr'.alloc (.cells (v8 (List.replicate 32 0)) 24))
          obtain ⟨go, hgo⟩ : ∃ go, go = wr'.heap.size := ⟨_, rfl⟩
          rw [← hgo] at u2 hlr ⊢
          generalize wr'.alloc (.cells (v8 (List.replicate 32 0)) 24) = w7 at u0 u1 u2 u3 ⊢
          clear rs e25 eb hgo
          refine loop8 w w7 (w1.heap.size + 1) go S (by omega) (by omega) u0 u1 u2 u3 _ _ _ _ _ _ _ _ _ _ _ _ _ _ _ _ _ _ _ _ _ _ _ _ _ _ _ _ _ _ _ _ _ _ _ _ _ _ _ _ _ _ _ _ _ _ _ _ _ _ _ _ _ _ _ _ _ _ _ _ _ _ _ _ _ _ _ _ _ _ _ _ _ _ _ _ _ _ _ _ _ _ _ _ _ _ _ _ _ _ _ _ _ _ _ _ _ _ _ _ _ _ _ _ _ _ _ _ _ _ _ _ _ _ _ _ _ _ _ _ _ _ _ _ _ _ _ _ _ _ _ _ _ _ _ _ _ _ _ _ _ _ _ _ _ _ _ _ _ _ _ _ _ _ _ _ _ _ _ _ _ _ _ _ _ _ _ _ _ _ _ _ _ _ _ _ _ _ _ _ _ _ _ _ _ _ _ _ _ _ _ _ _ _ _ _ _ _ _ _ _ _ _ _ _ _ _ _ _ _ _ _ _ _ _ _ _ _ _ _ _ _ _ _ _ _ _ _ _ _ _ _ _ _ _ _ _ _ _ _ _ _ _ _ _ _ _ _ _ _ _ _ _ _ _ _ _ _ _ _ _ _ _ _ _ _ _ _ _ _ _ _ _ _ _ _ ?_
          clear u0 u1 u2 u3
          intro u22 u239 u240 u241 u242 u243 u244 u245 u246 u247 u248 u249 u250 u251 u252 u253 u254 u255 u256 u257 u258 u259 u260 u261 u262 u263 u264 u265 u266 u267 u268 u269 u270 u271 u272 u273 u274 u275 u276 w8 u1 u2 u3
          have hol := outN_length S 8
          have i25 : (Tryd.prog.info? 24).map (·.size) = some (v8 (outN S 8)).size := by rw [v8_size, hol]; kernel_rfl
          have hold : (v8 (List.replicate 32 0)).size = (v8 (outN S 8)).size := by rw [v8_size, v8_size, hol]; simp
          go_wp2_with (first | (refine wpList_load_row (by rfl) 24 (.tmp 21) (by rfl) go (by rfl) 24 (v8 (outN S 8)) (0, 0) _ u2 Tryd.underlying24 rfl i25 ?_) | (refine store_row0 24 (.tmp 2) (.tmp 277) (by rfl) (by rfl) (by rfl) w.heap.size (v8 (outN S 8)) (by rfl) (by rfl) 24 _ u1 i25 hold (v8_one _) ?_))
          refine bodyPost_ret (results_cell_row Tryd.results36 _ _ w.heap.size 24 (v8 (outN S 8)) (0, 0) _ rfl (u1.setRow _) Tryd.underlying24 rfl i25) rfl ⟨?_, below_setRow u3 (Nat.le_refl _) _⟩
          have eT : T = padL bs := by rw [HT.out, HP.out.1, HP.out.2, padL, hlen]
          have eS : idS S = shaS bs := by
            rw [sha_pad, ← eT, hTl]; rw [HS.out]
          rw [← eS, outN_id S 8 (by omega)]; rfl
end Go.Proofs.YtoebnkepeledmaaDoor
