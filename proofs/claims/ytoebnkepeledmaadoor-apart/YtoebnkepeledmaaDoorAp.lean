/- OtsApart: the walk, and what it wants. No old memory turns. -/
import Derived.Test.YtoebnkepeledmaaDoorClaims2
import Derived.Test.YtoebnkepeledmaaDoorRefG
import Derived.Laws.MakeOwn
import Derived.Test.YtoebnkepeledmaaDoorOtsH
import Derived.Test.YtoebnkepeledmaaDoorKnown5
namespace Go.Proofs.YtoebnkepeledmaaDoor

section
open Go Go.RowKit
theorem Own8.row4 {w : World} {B : Nat} {e : TypeId} {sp : Option Addr} {n cap : Nat} {l : List Int} (h : Own8 w B e (.slice sp n cap) l) : (sp = none ∧ cap = 0 ∧ l = [] ∧ n = 0) ∨ ∃ g cur, sp = some ⟨g, 0, none⟩ ∧ Row w g e cur ∧ n = l.length ∧ l.length ≤ cap := by
  obtain ⟨hl, h⟩ := h
  rcases h with ⟨h, h0⟩ | ⟨g, cap', cur, hv, hg, hh, hn, _⟩
  · injection h with h1 h2 h3
    exact .inl ⟨h1, h3, List.eq_nil_of_length_eq_zero h0, h2⟩
  · injection hv with h1 h2 h3
    subst h3
    exact .inr ⟨g, cur, h1, hh, h2, hn⟩
/-- append onto own bytes: in their own block, or in a new one. -/
theorem run8 (w : World) (ty : TypeId) (B : Nat) (v : Value) (l : List Int) (hown : Own8 w B 5 v l) (sp : Option Addr) (m c : Nat) (cs : List Int) (hm : cs.length = m) (hnil : sp = none → c = 0 ∧ m = 0) (hby : Bytes w sp cs)
    (hlen : l.length + m ≤ 70368744177664) (hB : B ≤ w.heap.size) :
    ∃ sp' cap' w', (Builtin.append_ #[28, 28] ty #[v, .slice sp m c]).run Tryd.prog w = .ok (.slice sp' (l ++ cs).length cap') w' ∧ Own8 w' B 5 (.slice sp' (l ++ cs).length cap') (l ++ cs) ∧ w.grownBy w' v.ownBlock ∧
      ((Value.slice sp' (l ++ cs).length cap').ownBlock = v.ownBlock ∨ (Value.slice sp' (l ++ cs).length cap').ownBlock = some w.heap.size) := by
  obtain ⟨i, hi, hz, h1, h2⟩ : ∃ i, Tryd.prog.info? 5 = some i ∧ i.zero = some (.int .u8 0) ∧ i.size = 1 ∧ i.bytes = 1 := by
    have hinfo := info5
    cases hq : Tryd.prog.info? 5 with
    | none => simp [hq] at hinfo
    | some i => simp [hq] at hinfo; exact ⟨i, rfl, hinfo.1, hinfo.2.1, hinfo.2.2⟩
  cases sp with
  | none =>
    obtain ⟨rfl, rfl⟩ := hnil rfl
    obtain rfl : cs = [] := List.eq_nil_of_length_eq_zero hm
    have hrun := run_append_owned_none (P := Tryd.prog) (w := w) B 28 ty 5 i 1 Tryd.underlying28 hi v l.length (l.map (Value.int .u8)) hown
    obtain ⟨sp', cap', rfl⟩ := hown.form
    refine ⟨sp', cap', w, by simpa using hrun, by simpa using hown, ⟨rfl, rfl, rfl, Nat.le_refl _, fun _ _ _ => rfl⟩, .inl ?_⟩
    cases sp' <;> rfl
  | some ad =>
    have hnl : (cs.map (Value.int .u8)).length = m * i.size := by rw [h1]; simp [hm]
    have hnews : ∀ j u, (cs.map (Value.int .u8))[j]? = some u → w.cell? (ad.add j) = some u := fun j u hu => by
      have hj : j < cs.length := by have := (List.getElem?_eq_some_iff.1 hu).1; simpa using this
      obtain ⟨b, ob, eb, hc⟩ := hby (by omega)
      cases eb
      rw [Addr.add_mid, hc j hj, ← hu]; simp [gi, hj]
    have hone : ∀ u ∈ cs.map (Value.int .u8), u.oneCell' = true := fun u hu => by obtain ⟨y, _, rfl⟩ := List.mem_map.1 hu; rfl
    obtain ⟨v', w', hr, ho', hg', hz0⟩ := run_append_own (P := Tryd.prog) w B 28 ty 5 i (.int .u8 0) 1 1 Tryd.underlying28 hi hz h1 h2 rfl (by decide) v l.length (l.map (Value.int .u8)) hown ad m c (cs.map (Value.int .u8)) (by rw [← h1]; exact hnl) hnews hone (by unfold maxLen; omega) (by omega) hB
    have hO : Own8 w' B 5 v' (l ++ cs) := by
      unfold Own8
      rw [List.length_append, List.map_append, hm]; exact ho'
    obtain ⟨sp', cap', rfl⟩ := hO.form
    refine ⟨sp', cap', w', hr, hO, hg', ?_⟩
    rcases hown.2 with ⟨rfl, h0⟩ | ⟨g, cap, cur, rfl, hbg, hgg, hnc, hcm, hcs, htk⟩
    · by_cases hm0 : m = 0
      · subst hm0
        have : sp' = none := by
          rcases hO.row4 with ⟨h, _⟩ | ⟨g, cur, h3, h4, _⟩
          · exact h
          · have h5 := hz0.2 ⟨rfl, rfl⟩
            injection h5 with h5
        subst this; exact .inl rfl
      · have hr2 := run_append_nil (P := Tryd.prog) w 28 ty 5 i (.int .u8 0) Tryd.underlying28 hi hz ad m c (cs.map (Value.int .u8)) hnl hnews (by omega) (by omega) (by rw [h2]; omega)
        rw [hr] at hr2
        injection hr2 with e1 e2
        injection e1 with e1
        subst e1; exact .inr rfl
    · by_cases hroom : l.length + m ≤ cap
      · have hr2 := run_append_room (P := Tryd.prog) w 28 ty 5 i Tryd.underlying28 hi g l.length cap cur hgg ad m c (cs.map (Value.int .u8)) hnl hnews hone hroom (by rw [h1, hcs]; simp [hm]; omega)
        rw [hr] at hr2
        injection hr2 with e1 e2
        injection e1 with e1
        subst e1; exact .inl rfl
      · have holds : ∀ j u, (l.map (Value.int .u8))[j]? = some u → w.cell? ((⟨g, 0, none⟩ : Addr).add j) = some u := World.ownsRow.cells (v := .slice (some ⟨g, 0, none⟩) l.length cap) hown (g := g) rfl
        have hr2 := run_append_grow (P := Tryd.prog) w 28 ty 5 i (.int .u8 0) Tryd.underlying28 hi hz ⟨g, 0, none⟩ l.length cap (l.map (Value.int .u8)) (by rw [h1]; simp) holds ad m c (cs.map (Value.int .u8)) hnl hnews (by omega) (by omega) (growslice_fits (by omega) (by rw [h2]; omega))
        rw [hr] at hr2
        injection hr2 with e1 e2
        injection e1 with e1
        subst e1; exact .inr rfl

theorem wp8o {w : World} {o : Oper} {a : Act} {K : Act → World → Prop} {Q : Exit → Act → World → Prop} (s x : Operand)
    (ho : o.op = .call { callee := .builtin .append, args := #[s, x], argTypes := #[28, 28] }) (B : Nat) (v : Value) (l : List Int) (hs : a.eval s = v) (hown : Own8 w B 5 v l) (sp : Option Addr) (m c : Nat) (cs : List Int) (hx : a.eval x = .slice sp m c) (hm : cs.length = m) (hnil : sp = none → c = 0 ∧ m = 0) (hby : Bytes w sp cs)
    (hlen : l.length + m ≤ 70368744177664) (hB : B ≤ w.heap.size) (hblk : ∀ k, v.ownBlock = some k → B ≤ k)
    (h : ∀ sp' cap' w', Own8 w' B 5 (.slice sp' (l ++ cs).length cap') (l ++ cs) → Below B w w' → w.grownBy w' v.ownBlock → ((Value.slice sp' (l ++ cs).length cap').ownBlock = v.ownBlock ∨ (Value.slice sp' (l ++ cs).length cap').ownBlock = some w.heap.size) → K (a.put o.dst (.slice sp' (l ++ cs).length cap')) w') : Oper.wp Tryd.prog o a w K Q := by
  obtain ⟨sp', cap', w', hr, h1, h2, h3⟩ := run8 w o.type B v l hown sp m c cs hm hnil hby hlen hB
  unfold Oper.wp
  simp only [execOp, ho, resolve, invoke, builtin, Sem.run_bind, Sem.run_pure, Result.andThen_ok, List.map_toArray, List.map_cons, List.map_nil, hs, hx, hr]
  exact h sp' cap' w' h1 ((Below.refl B w).grown h2 hB hblk) h2 h3
theorem own_blk {w : World} {B : Nat} {v : Value} {l : List Int} (h : Own8 w B 5 v l) : ∀ k, v.ownBlock = some k → B ≤ k := fun k hk => by
  obtain ⟨_, hr⟩ := h
  rcases hr with ⟨rfl, _⟩ | ⟨g, cap, cur, rfl, hg, _⟩
  · cases hk
  · cases hk; exact hg
theorem OwnS.grew {w w' : World} {B n : Nat} {s v : Value} {L : List Int} (h : OwnS w B s n L) (hg : Grew w w' v.ownBlock) (hne : s.ownBlock ≠ v.ownBlock) : OwnS w' B s n L := by
  obtain ⟨sp, cap, rfl, h⟩ := h
  refine ⟨sp, cap, rfl, ?_⟩
  obtain ⟨hl, hr⟩ := h
  refine ⟨hl, ?_⟩
  rcases hr with h0 | ⟨g, cap', cur, hv, hB, hh, r⟩
  · exact .inl h0
  · refine .inr ⟨g, cap', cur, hv, hB, ?_, r⟩
    have hrow : Row w g 5 cur := hh
    rw [hg g hrow.lt (fun e => hne (by rw [hv, ← e]; rfl))]
    exact hh
theorem own_new {w w' : World} {B n : Nat} {s v : Value} {l L : List Int} (ow : Own8 w' w.heap.size 5 v l) (hl : 0 < l.length) (h : OwnS w B s n L) : v.ownBlock ≠ s.ownBlock := by
  obtain ⟨sp, cap, rfl, h⟩ := h
  rcases ow.2 with ⟨_, h0⟩ | ⟨g, cap', cur, rfl, hB, _⟩
  · omega
  · exact own_lt h hB
theorem own_lit' {w : World} {B n m : Nat} {s : Value} {L : List Int} (h : OwnS w B s n L) : s.ownBlock ≠ (Value.slice (some ⟨w.heap.size, 0, none⟩) m m).ownBlock := by
  obtain ⟨sp, cap, rfl, h⟩ := h
  exact (own_lt h (Nat.le_refl _)).symm
theorem own_or {w : World} {B n : Nat} {s v u : Value} {L : List Int} (d : s.ownBlock ≠ v.ownBlock) (h : OwnS w B s n L) (hor : u.ownBlock = v.ownBlock ∨ u.ownBlock = some w.heap.size) : s.ownBlock ≠ u.ownBlock := by
  rcases hor with e | e
  · rw [e]; exact d
  · rw [e]
    obtain ⟨sp, cap, rfl, h⟩ := h
    exact (own_lt h (Nat.le_refl _)).symm
theorem exec_eql_strs {P : Program} {o : Oper} {a : Act} {w : World} (t t2 : TypeId) (x y : Operand) (hop : o.op = .binOp .eql t x y t2) (s u : ByteArray) (hx : a.eval x = .string s) (hy : a.eval y = .string u) :
    (execOp a.eval o).run P w = .ok (.value (.bool (s.toList == u.toList))) w := by
  unfold execOp
  simp only [hop, hx, hy]
  simp [eqGuard, binOp_string_eql]
end

section
open Go Go.RowKit

theorem row_ne {w : World} {a b : Nat} {s t : TypeId} {us vs : Array Value} (h : Row w a s us) (k : Row w b t vs) (hst : s ≠ t) : a ≠ b := by
  rintro rfl
  unfold Row at h k
  rw [h] at k
  injection k with k; injection k with _ k
  exact hst k
theorem VarS.setVar {w : World} {B b : Nat} {s : Value} {T T' : TypeId} {z : List Int} {vs cs : Array Value} (h : VarS w B s T z) (hr : Row w b T' vs) (hT : T' ≠ T) : VarS (w.setRow b cs) B s T z := by
  obtain ⟨b', rfl, h, h2⟩ := h
  exact ⟨b', rfl, h.setRowOther (row_ne h hr (Ne.symm hT)) cs, h2⟩
theorem var_new {w : World} {B : Nat} {s : Value} {T : TypeId} {z : List Int} (h : VarS w B s T z) : (Value.pointer (some ⟨w.heap.size, 0, none⟩)) ≠ s := by
  obtain ⟨b, rfl, h, _⟩ := h
  have := h.lt
  intro e
  injection e with e
  injection e with e
  injection e with e
  omega
theorem sig_head {S : List Int → List Int} (hS : ∀ l, (S l).length = 32) (H seed m1 m2 : List Int) : (sigL S H seed m1).take 36 = (sigL S H seed m2).take 36 := by
  have hl : (n4 2 ++ saltL S H seed).length = 36 := by rw [List.length_append, n4_len]; unfold saltL stepL; rw [hS]
  unfold sigL
  rw [List.take_left' hl, List.take_left' hl]

set_option maxRecDepth 20000 in
set_option maxHeartbeats 2000000 in
theorem apart_main (S : List Int → List Int) (hS : Hash S) (nm seed msg : List Int) (q at_ by_ : Int) (mp : Option Addr) (ml mc : Nat) (w0 : World) (hL : Laid w0) (hn : nm.length = 16) (hs : seed.length = 32) (hml : msg.length = ml) (hmn : mp = none → mc = 0 ∧ ml = 0) (hmm : ml ≤ 100) (hmb : Bytes w0 mp msg) (hby : by_ ≠ 0) (hat : 0 ≤ at_) (hq0 : 0 ≤ q) (hq1 : q ≤ 2147483646) :
    Calls Tryd.prog 6 #[.agg (v8 nm), .int .i64 q, .agg (v8 seed), .int .i64 at_, .int .u8 by_, .slice mp ml mc] w0 fun e w' => e = .returned (.bool true) ∧ Below w0.heap.size w0 w' := by
  have hK : ∀ wx, Laid wx → Calls Tryd.prog 14 #[] wx fun e w' => e = .returned (.bool true) ∧ Below wx.heap.size wx w' := fun wx hl => known5_any S hS wx hl
  have hP : ∀ (N Sd : List Int) (k : Int) wx, Laid wx → N.length = 16 → Sd.length = 32 → Calls Tryd.prog 15 #[.agg (v8 N), .int .i64 k, .agg (v8 Sd)] wx fun e w' => e = .returned (.agg (v8 (pubL S (N ++ n4 k) Sd))) ∧ Below wx.heap.size wx w' := fun N Sd k wx hl h1 h2 => Public_any S hS N Sd k wx hl h1 h2
  have hP0 : ∀ wx, Laid wx → Calls Tryd.prog 15 #[.agg (v8 nm), .int .i64 q, .agg (v8 seed)] wx fun e w' => e = .returned (.agg (v8 (pubL S (nm ++ n4 q) seed))) ∧ Below wx.heap.size wx w' := fun wx hl => hP nm seed q wx hl hn hs
  have hPKl : (pubL S (nm ++ n4 q) seed).length = 32 := hS.len _
  have hPK : pubL S (nm ++ n4 q) seed = pubL S (nm ++ n4 q) seed := rfl
  obtain ⟨PK, hPKe⟩ : ∃ PK, pubL S (nm ++ n4 q) seed = PK := ⟨_, rfl⟩
  rw [hPKe] at hPKl
  simp only [hPKe] at hP0
  clear hPK
  have hb0 : (by_ == 0) = false := by simpa using hby
  have ha0 : decide (at_ < 0) = false := decide_eq_false (by omega)
  have hm1 : ¬ (100 : Int) < (ml : Int) := by omega
  have hm2 : decide ((ml : Int) > 100) = false := decide_eq_false (by omega)
  have hq2 : decide (q < 0) = false := decide_eq_false (by omega)
  have hq3 : decide (q > 2147483646) = false := decide_eq_false (by omega)
  have z32 := zv32
  go_enter Tryd.func6, Tryd.ntmps6
  go_upto_region 1 with fail
  have r0 : Row (World.alloc (World.alloc w0 (.cells (v8 nm) 22)) (.cells (v8 seed) 24)) w0.heap.size 22 (v8 nm) := (Row.new _ _ _).alloc _
  have r1 : Row (World.alloc (World.alloc w0 (.cells (v8 nm) 22)) (.cells (v8 seed) 24)) (w0.heap.size + 1) 24 (v8 seed) := Row.newAt _ _ _ _ (by simp)
  have b1 : Below w0.heap.size w0 (World.alloc (World.alloc w0 (.cells (v8 nm) 22)) (.cells (v8 seed) 24)) := ((Below.refl _ _).alloc (Nat.le_refl _) _).alloc (by simp) _
  change Code.wp _ _ _ _ ((World.alloc (World.alloc w0 (.cells (v8 nm) 22)) (.cells (v8 seed) 24)))
  generalize (World.alloc (World.alloc w0 (.cells (v8 nm) 22)) (.cells (v8 seed) 24)) = w1 at r0 r1 b1 ⊢
  go_upto_region 6 with (first | (go_at_call 14; (with_reducible refine Calls.mono (hK _ (hL.below b1)) ?_); rintro e w2 ⟨rfl, hb2⟩; have p0 := r0.below hb2 r0.lt; have p1 := r1.below hb2 r1.lt; have pb := b1.trans (hb2.mono b1.size); have hp1 := p1.lt) | (refine wpList_load_row (by rfl) 22 (.tmp 6) (by rfl) w0.heap.size (by rfl) 22 (v8 nm) (0, 0) _ p0 Tryd.underlying22 rfl (name_info hn) ?_) | (refine wpList_load_row (by rfl) 24 (.tmp 8) (by rfl) (w0.heap.size + 1) (by rfl) 24 (v8 seed) (0, 0) _ p1 Tryd.underlying24 rfl (id_info hs) ?_) | (go_at_call 15; (with_reducible refine Calls.mono (hP0 _ (hL.below pb)) ?_); rintro e w3 ⟨rfl, hb3⟩) | (refine store_row0 24 (.tmp 13) (.tmp 46) (by rfl) (by rfl) (by rfl) w3.heap.size (v8 PK) (by rfl) (by rfl) 24 (v8 (zer 32)) (Row.new w3 24 _) (id_info hPKl) (by rw [v8_size, v8_size, hPKl, zer_len]) (v8_one _) ?_))
  have hs3 := hb3.size
  have x0 := ((p0.below hb3 (by omega)).alloc (.cells (v8 (zer 32)) 24)).setRowOther (g := w3.heap.size) (by omega) (v8 PK)
  have x1 := ((p1.below hb3 (by omega)).alloc (.cells (v8 (zer 32)) 24)).setRowOther (g := w3.heap.size) (by omega) (v8 PK)
  have x3 := (Row.new w3 24 (v8 (zer 32))).setRow (v8 PK)
  have xb : Below w0.heap.size w0 ((w3.alloc (.cells (v8 (zer 32)) 24)).setRow w3.heap.size (v8 PK)) := below_setRow ((pb.trans (hb3.mono pb.size)).alloc (by have := pb.size; omega) _) (by have := pb.size; omega) _
  obtain ⟨gk, hgk⟩ : ∃ gk, gk = w3.heap.size := ⟨_, rfl⟩
  have hgk2 : w0.heap.size + 1 < gk := by omega
  change Code.wp _ _ _ _ ((w3.alloc (.cells (v8 (zer 32)) 24)).setRow w3.heap.size (v8 PK))
  rw [← hgk] at x0 x1 x3 xb ⊢
  generalize (w3.alloc (.cells (v8 (zer 32)) 24)).setRow gk (v8 PK) = w4 at x0 x1 x3 xb ⊢
  clear hgk r0 r1 b1 hb2 p0 p1 pb hb3 hK hp1 hs3 hP0
  have hx3 := x3.lt
  obtain ⟨B, hB⟩ : ∃ B, B = w4.heap.size := ⟨_, rfl⟩
  have hsB : ∀ {w : World}, Below B w4 w → B ≤ w.heap.size := fun h => by have := h.size; omega
  refine region_invF 5 (by kernel_rfl) (by kernel_rfl) (fun a0 listed a w => ∃ s14 s15 s47 s48, a = (Act.put (Act.put (Act.put (Act.put a0 (some 14) s14) (some 15) s15) (some 47) s47) (some 48) s48) ∧ Below B w4 w ∧ (listed.getD 0 false = true → s47 = .agg (v8 nm)) ∧ (listed.getD 1 false = true → s48 = .agg (v8 seed)) ∧ (listed.getD 2 false = true → listed.getD 4 false = false → VarS w B s14 22 (zer 16)) ∧ (listed.getD 3 false = true → VarS w B s15 24 (zer 32)) ∧ (listed.getD 4 false = true → VarS w B s14 22 nm)) ?_ ?_ ?_
  all_goals simp only [Act.put, List.setIfInBounds_toArray, List.set_cons_succ, List.set_cons_zero]
  · exact ⟨_, _, _, _, rfl, (Below.refl B _).drew, (fun h => absurd h (by rw [getD_replicate_false]; decide)), (fun h => absurd h (by rw [getD_replicate_false]; decide)), (fun h => absurd h (by rw [getD_replicate_false]; decide)), (fun h => absurd h (by rw [getD_replicate_false]; decide)), (fun h => absurd h (by rw [getD_replicate_false]; decide))⟩
  · intro listed a w i o hls hJ hin ho hi hall hcl
    obtain ⟨s14, s15, s47, s48, rfl, hbW, c0, c1, c2, c3, c4⟩ := hJ
    rcases (by omega : i = 0 ∨ i = 1 ∨ i = 2 ∨ i = 3 ∨ i = 4) with rfl | rfl | rfl | rfl | rfl
    · obtain rfl := Option.some.inj ho
      have hsz : 0 < listed.size := by rw [hls]; decide
      have hbw := hbW
      refine inv_val (w' := w) (.agg (v8 nm)) rfl rfl (exec_load_row 22 (.tmp 6) rfl w0.heap.size rfl 22 _ _ (x0.below hbW (by omega)) Tryd.underlying22 rfl (name_info hn)) ?_
      exact ⟨s14, s15, (.agg (v8 nm)), s48, rfl, hbw, (fun _ => rfl), (fun h => c1 (bit_ne h (by decide))), (fun h h2 => c2 (bit_ne h (by decide)) (bit_ne h2 (by decide))), (fun h => c3 (bit_ne h (by decide))), (fun h => c4 (bit_ne h (by decide)))⟩
    · obtain rfl := Option.some.inj ho
      have hsz : 1 < listed.size := by rw [hls]; decide
      have hbw := hbW
      refine inv_val (w' := w) (.agg (v8 seed)) rfl rfl (exec_load_row 24 (.tmp 8) rfl (w0.heap.size + 1) rfl 24 _ _ (x1.below hbW (by omega)) Tryd.underlying24 rfl (id_info hs)) ?_
      exact ⟨s14, s15, s47, (.agg (v8 seed)), rfl, hbw, (fun h => c0 (bit_ne h (by decide))), (fun _ => rfl), (fun h h2 => c2 (bit_ne h (by decide)) (bit_ne h2 (by decide))), (fun h => c3 (bit_ne h (by decide))), (fun h => c4 (bit_ne h (by decide)))⟩
    · obtain rfl := Option.some.inj ho
      have hsz : 2 < listed.size := by rw [hls]; decide
      have hbw : Below B w4 (w.alloc (.cells (v8 (zer 16)) 22)) := hbW.alloc (hsB hbW) _
      refine inv_val (.pointer (some ⟨w.heap.size, 0, none⟩)) (w' := w.alloc (.cells (v8 (zer 16)) 22)) rfl rfl (by kernel_rfl) ?_
      exact ⟨(.pointer (some ⟨w.heap.size, 0, none⟩)), s15, s47, s48, rfl, hbw, (fun h => c0 (bit_ne h (by decide))), (fun h => c1 (bit_ne h (by decide))), (fun _ _ => VarS.new w B (hsB hbW) _ _), (fun h => (c3 (bit_ne h (by decide))).alloc _), (fun h => absurd (hcl 4 _ rfl (bit_ne h (by decide)) ⟨2, .data⟩ (by simp) rfl) (by rw [hi]; decide))⟩
    · obtain rfl := Option.some.inj ho
      have hsz : 3 < listed.size := by rw [hls]; decide
      have hbw : Below B w4 (w.alloc (.cells (v8 (zer 32)) 24)) := hbW.alloc (hsB hbW) _
      refine inv_val (.pointer (some ⟨w.heap.size, 0, none⟩)) (w' := w.alloc (.cells (v8 (zer 32)) 24)) rfl rfl (by kernel_rfl) ?_
      exact ⟨s14, (.pointer (some ⟨w.heap.size, 0, none⟩)), s47, s48, rfl, hbw, (fun h => c0 (bit_ne h (by decide))), (fun h => c1 (bit_ne h (by decide))), (fun h h2 => (c2 (bit_ne h (by decide)) (bit_ne h2 (by decide))).alloc _), (fun _ => VarS.new w B (hsB hbW) _ _), (fun h => (c4 (bit_ne h (by decide))).alloc _)⟩
    · obtain rfl := Option.some.inj ho
      have hsz : 4 < listed.size := by rw [hls]; decide
      have hdep2 : listed.getD 2 false = true := hall ⟨2, .data⟩ (by simp) (by rfl)
      have hdep0 : listed.getD 0 false = true := hall ⟨0, .data⟩ (by simp) (by rfl)
      obtain rfl := c0 hdep0
      obtain ⟨bV, rfl, rV, hbV⟩ := c2 hdep2 hi
      refine inv_store 22 (.tmp 14) (.tmp 47) rfl rfl rfl rfl bV nm rfl rfl 22 (zer 16) rV (name_info hn) (by rw [hn]; rfl) ?_
      have hbw : Below B w4 (w.setRow bV (v8 nm)) := below_setRow hbW hbV _
      exact ⟨(.pointer (some ⟨bV, 0, none⟩)), s15, (.agg (v8 nm)), s48, rfl, hbw, (fun h => c0 (bit_ne h (by decide))), (fun h => c1 (bit_ne h (by decide))), (fun _ h2 => absurd (bit_on hsz) (by rw [h2]; decide)), (fun h => (c3 (bit_ne h (by decide))).setVar rV (by decide)), (fun _ => ⟨bV, rfl, rV.setRow _, hbV⟩)⟩
  · intro listed a w hall hJ
    obtain ⟨s14, s15, s47, s48, rfl, hbW, c0, c1, c2, c3, c4⟩ := hJ
    obtain rfl := c0 (hall 0 (by omega))
    obtain rfl := c1 (hall 1 (by omega))
    obtain ⟨b3, rfl, r3, hb3⟩ := c3 (hall 3 (by omega))
    obtain ⟨b4, rfl, r4, hb4⟩ := c4 (hall 4 (by omega))
    have y0 := x0.below hbW (by omega)
    have y1 := x1.below hbW (by omega)
    have y3 := x3.below hbW (by omega)
    have yb := xb.trans (hbW.mono (by have := xb.size; omega))
    have hbn : B ≤ b4 := hb4
    have hbs : B ≤ b3 := hb3
    have hne := row_ne r4 r3 (by decide)
    have hBk : B = w4.heap.size := hB
    clear x0 x1 x3 xb c0 c1 c2 c3 c4 hall hsB hbW hB listed
    generalize w = w5 at *
    simp only [List.drop_succ_cons, List.drop_zero]
    (refine store_row0 24 (.tmp 15) (.tmp 48) (by rfl) (by rfl) (by rfl) b3 (v8 seed) (by rfl) (by rfl) 24 (v8 (zer 32)) r3 (id_info hs) (by rw [v8_size, v8_size, hs]; rfl) (v8_one _) ?_)
    have n0 := y0.setRowOther (g := b3) (by omega) (v8 seed)
    have n1 := y1.setRowOther (g := b3) (by omega) (v8 seed)
    have n3 := y3.setRowOther (g := b3) (by omega) (v8 seed)
    have n4' := r4.setRowOther (g := b3) hne (v8 seed)
    have n5 := r3.setRow (v8 seed)
    have nb := below_setRow (g := b3) yb (by omega) (v8 seed)
    go_upto_region 7 with fail
    change Code.wp _ _ _ _ (w5.setRow b3 (v8 seed))
    generalize w5.setRow b3 (v8 seed) = w6 at n0 n1 n3 n4' n5 nb ⊢
    clear y0 y1 y3 r4 r3 yb
    have e16 := Int.emod_nonneg at_ (show (16 : Int) ≠ 0 by decide)
    have e32 := Int.emod_nonneg at_ (show (32 : Int) ≠ 0 by decide)
    have l16 := Int.emod_lt_of_pos at_ (show (0 : Int) < 16 by decide)
    have l32 := Int.emod_lt_of_pos at_ (show (0 : Int) < 32 by decide)
    obtain ⟨ka, hka⟩ : ∃ ka : Nat, at_ % 16 = ka := ⟨(at_ % 16).toNat, by omega⟩
    obtain ⟨kb, hkb⟩ : ∃ kb : Nat, at_ % 32 = kb := ⟨(at_ % 32).toNat, by omega⟩
    have tka : at_.tmod 16 = ka := by rw [Int.tmod_eq_emod_of_nonneg hat]; exact hka
    have tkb : at_.tmod 32 = kb := by rw [Int.tmod_eq_emod_of_nonneg hat]; exact hkb
    have lka : ka < 16 := by omega
    have lkb : kb < 32 := by omega
    clear e16 e32 l16 l32
    have q1 : w6.cell? ⟨b4, ka, none⟩ = some _ := n4'.cell8 (by omega)
    have q2 := n4'.frozen (j := ka)
    go_upto_region 8 with fail
    have u0 := n0.setOther (a := ⟨b4, ka, none⟩) (by show w0.heap.size ≠ b4; omega) (.int .u8 (bits .xor .u8 (gi nm ka) by_))
    have u1 := n1.setOther (a := ⟨b4, ka, none⟩) (by show w0.heap.size + 1 ≠ b4; omega) (.int .u8 (bits .xor .u8 (gi nm ka) by_))
    have u3 := n3.setOther (a := ⟨b4, ka, none⟩) (by show gk ≠ b4; omega) (.int .u8 (bits .xor .u8 (gi nm ka) by_))
    have u4 := n4'.set8 ka (bits .xor .u8 (gi nm ka) by_)
    have u5 := n5.setOther (a := ⟨b4, ka, none⟩) (by show b3 ≠ b4; exact hne.symm) (.int .u8 (bits .xor .u8 (gi nm ka) by_))
    have ub := nb.setCell (p := ⟨b4, ka, none⟩) (by show w0.heap.size ≤ b4; omega) (.int .u8 (bits .xor .u8 (gi nm ka) by_))
    obtain ⟨nm2, hnm2⟩ : ∃ nm2, nm.set ka (bits .xor .u8 (gi nm ka) by_) = nm2 := ⟨_, rfl⟩
    have hn2 : nm2.length = 16 := by rw [← hnm2, List.length_set]; exact hn
    rw [hnm2] at u4
    change Code.wp _ _ _ _ (w6.setCell ⟨b4, ka, none⟩ (.int .u8 (bits .xor .u8 (gi nm ka) by_)))
    generalize w6.setCell ⟨b4, ka, none⟩ (.int .u8 (bits .xor .u8 (gi nm ka) by_)) = w7 at u0 u1 u3 u4 u5 ub ⊢
    clear n0 n1 n3 n4' n5 nb q1 q2 hnm2
    have q1 : w7.cell? ⟨b3, kb, none⟩ = some _ := u5.cell8 (by omega)
    have q2 := u5.frozen (j := kb)
    go_upto_region 9 with fail
    have t0 := u0.setOther (a := ⟨b3, kb, none⟩) (by show w0.heap.size ≠ b3; omega) (.int .u8 (bits .xor .u8 (gi seed kb) by_))
    have t1 := u1.setOther (a := ⟨b3, kb, none⟩) (by show w0.heap.size + 1 ≠ b3; omega) (.int .u8 (bits .xor .u8 (gi seed kb) by_))
    have t3 := u3.setOther (a := ⟨b3, kb, none⟩) (by show gk ≠ b3; omega) (.int .u8 (bits .xor .u8 (gi seed kb) by_))
    have t4 := u4.setOther (a := ⟨b3, kb, none⟩) (by show b4 ≠ b3; exact hne) (.int .u8 (bits .xor .u8 (gi seed kb) by_))
    have t5 := u5.set8 kb (bits .xor .u8 (gi seed kb) by_)
    have tb := ub.setCell (p := ⟨b3, kb, none⟩) (by show w0.heap.size ≤ b3; omega) (.int .u8 (bits .xor .u8 (gi seed kb) by_))
    obtain ⟨sd2, hsd2⟩ : ∃ sd2, seed.set kb (bits .xor .u8 (gi seed kb) by_) = sd2 := ⟨_, rfl⟩
    have hs2 : sd2.length = 32 := by rw [← hsd2, List.length_set]; exact hs
    rw [hsd2] at t5
    change Code.wp _ _ _ _ (w7.setCell ⟨b3, kb, none⟩ (.int .u8 (bits .xor .u8 (gi seed kb) by_)))
    generalize w7.setCell ⟨b3, kb, none⟩ (.int .u8 (bits .xor .u8 (gi seed kb) by_)) = w8 at t0 t1 t3 t4 t5 tb ⊢
    clear u0 u1 u3 u4 u5 ub q1 q2 hsd2
    have l0 := t0.lt
    have l1 := t1.lt
    have l3 := t3.lt
    have l4 := t4.lt
    have l5 := t5.lt
    have hSi := fun wx hl hb => Sign_any S hS nm seed msg q mp ml mc wx hl hn hs hml (by omega) hb
    have hSG1 : (sigL S (nm ++ n4 q) seed msg).length = 4292 := sigL_len (fun l => hS.len l) _ _ _
    have hSG2 : (sigL S (nm ++ n4 q) seed (msg ++ [by_])).length = 4292 := sigL_len (fun l => hS.len l) _ _ _
    have hhd : (sigL S (nm ++ n4 q) seed (msg ++ [by_])).take 36 = (sigL S (nm ++ n4 q) seed msg).take 36 := sig_head (fun l => hS.len l) _ _ _ _
    have hMB : (msg ++ [by_]).length = ml + 1 := by rw [List.length_append, hml]; rfl
    have hSi2 : ∀ sp cp wx, Laid wx → Bytes wx sp (msg ++ [by_]) → _ := fun sp cp wx hl hb => Sign_any S hS nm seed (msg ++ [by_]) q sp (ml + 1) cp wx hl hn hs hMB (by omega) hb
    have hRS1 := fun wx hb => rSign_any S hS nm seed msg q mp ml mc wx hn hs hml hmn (by omega) hb
    have hRS2 := fun sp cp wx hb hnl => rSign_any S hS nm seed (msg ++ [by_]) q sp (ml + 1) cp wx hn hs hMB hnl (by omega) hb
    have hR := fun (N Sd : List Int) (k : Int) wx h1 h2 => rPublic_any S hS N Sd k wx h1 h2
    generalize sigL S (nm ++ n4 q) seed msg = SG at *
    generalize sigL S (nm ++ n4 q) seed (msg ++ [by_]) = SG2 at *
    go_upto_region 10 with (first | (refine wpList_load_row (by rfl) 22 (.tmp 6) (by rfl) w0.heap.size (by rfl) 22 (v8 nm) (0, 0) _ t0 Tryd.underlying22 rfl (name_info hn) ?_) | (refine wpList_load_row (by rfl) 24 (.tmp 8) (by rfl) (w0.heap.size + 1) (by rfl) 24 (v8 seed) (0, 0) _ t1 Tryd.underlying24 rfl (id_info hs) ?_) | (go_at_call 17; (with_reducible refine Calls.mono (hSi _ (hL.below tb) (hmb.below tb)) ?_); rintro e w9 ⟨g1, rfl, hg1, v6, hb9⟩))
    have x0 := t0.below hb9 l0
    have x1 := t1.below hb9 l1
    have x3 := t3.below hb9 l3
    have x4 := t4.below hb9 l4
    have x5 := t5.below hb9 l5
    have xb := tb.trans (hb9.mono tb.size)
    have x6 := v6
    have l6 := x6.lt
    have lb := tb.size
    have l9 := hb9.size
    have hgb : gk < b4 ∧ gk < b3 := by omega
    clear t0 t1 t3 t4 t5 tb hb9 v6 hSi hbn hbs hb3 hb4 hBk
    clear B
    obtain ⟨B, hB⟩ : ∃ B, B = w9.heap.size := ⟨_, rfl⟩
    have hsB : ∀ {w : World}, Below B w9 w → B ≤ w.heap.size := fun h => by have := h.size; omega
    refine region_invF 10 (by kernel_rfl) (by kernel_rfl) (fun a0 listed a w => ∃ s68 s69 s70 s71 s72 s73 s74 s75 s76 s77, a = (Act.put (Act.put (Act.put (Act.put (Act.put (Act.put (Act.put (Act.put (Act.put (Act.put a0 (some 68) s68) (some 69) s69) (some 70) s70) (some 71) s71) (some 72) s72) (some 73) s73) (some 74) s74) (some 75) s75) (some 76) s76) (some 77) s77) ∧ Below B w9 w ∧ (listed.getD 0 false = true → s68 = .agg (v8 nm)) ∧ (listed.getD 1 false = true → s69 = .int .i64 q) ∧ (listed.getD 2 false = true → s70 = .agg (v8 seed)) ∧ (listed.getD 3 false = true → listed.getD 5 false = false → OwnS w B s71 0 []) ∧ (listed.getD 4 false = true → s72 = .slice mp ml mc) ∧ (listed.getD 5 false = true → listed.getD 8 false = false → OwnS w B s73 ml msg) ∧ (listed.getD 6 false = true → s74 = .int .u8 by_) ∧ (listed.getD 7 false = true → listed.getD 8 false = false → LitS w B s75 1 [by_]) ∧ (listed.getD 8 false = true → listed.getD 9 false = false → OwnS w B s76 (ml + 1) (msg ++ [by_])) ∧ (listed.getD 9 false = true → LitS w B s77 4292 SG2) ∧ (listed.getD 7 false = true → listed.getD 8 false = false → listed.getD 3 false = true → listed.getD 5 false = false → s75.ownBlock ≠ s71.ownBlock)) ?_ ?_ ?_
    all_goals simp only [Act.put, List.setIfInBounds_toArray, List.set_cons_succ, List.set_cons_zero]
    · exact ⟨_, _, _, _, _, _, _, _, _, _, rfl, (Below.refl B _).drew, (fun h => absurd h (by rw [getD_replicate_false]; decide)), (fun h => absurd h (by rw [getD_replicate_false]; decide)), (fun h => absurd h (by rw [getD_replicate_false]; decide)), (fun h => absurd h (by rw [getD_replicate_false]; decide)), (fun h => absurd h (by rw [getD_replicate_false]; decide)), (fun h => absurd h (by rw [getD_replicate_false]; decide)), (fun h => absurd h (by rw [getD_replicate_false]; decide)), (fun h => absurd h (by rw [getD_replicate_false]; decide)), (fun h => absurd h (by rw [getD_replicate_false]; decide)), (fun h => absurd h (by rw [getD_replicate_false]; decide)), (fun h => absurd h (by rw [getD_replicate_false]; decide))⟩
    · intro listed a w i o hls hJ hin ho hi hall hcl
      obtain ⟨s68, s69, s70, s71, s72, s73, s74, s75, s76, s77, rfl, hbW, c0, c1, c2, c3, c4, c5, c6, c7, c8, c9, d7_3⟩ := hJ
      rcases (by omega : i = 0 ∨ i = 1 ∨ i = 2 ∨ i = 3 ∨ i = 4 ∨ i = 5 ∨ i = 6 ∨ i = 7 ∨ i = 8 ∨ i = 9) with rfl | rfl | rfl | rfl | rfl | rfl | rfl | rfl | rfl | rfl
      · obtain rfl := Option.some.inj ho
        have hsz : 0 < listed.size := by rw [hls]; decide
        have hbw := hbW
        refine inv_val (w' := w) (.agg (v8 nm)) rfl rfl (exec_load_row 22 (.tmp 6) rfl w0.heap.size rfl 22 _ _ (x0.below hbW (by omega)) Tryd.underlying22 rfl (name_info hn)) ?_
        exact ⟨(.agg (v8 nm)), s69, s70, s71, s72, s73, s74, s75, s76, s77, rfl, hbw, (fun _ => rfl), (fun h => c1 (bit_ne h (by decide))), (fun h => c2 (bit_ne h (by decide))), (fun h h2 => c3 (bit_ne h (by decide)) (bit_ne h2 (by decide))), (fun h => c4 (bit_ne h (by decide))), (fun h h2 => c5 (bit_ne h (by decide)) (bit_ne h2 (by decide))), (fun h => c6 (bit_ne h (by decide))), (fun h h2 => c7 (bit_ne h (by decide)) (bit_ne h2 (by decide))), (fun h h2 => c8 (bit_ne h (by decide)) (bit_ne h2 (by decide))), (fun h => c9 (bit_ne h (by decide))), (fun h h2 h3 h4 => d7_3 (bit_ne h (by decide)) (bit_ne h2 (by decide)) (bit_ne h3 (by decide)) (bit_ne h4 (by decide)))⟩
      · obtain rfl := Option.some.inj ho
        have hsz : 1 < listed.size := by rw [hls]; decide
        have hbw := hbW
        refine inv_val (w' := w) (.int .i64 q) rfl rfl rfl ?_
        exact ⟨s68, (.int .i64 q), s70, s71, s72, s73, s74, s75, s76, s77, rfl, hbw, (fun h => c0 (bit_ne h (by decide))), (fun _ => rfl), (fun h => c2 (bit_ne h (by decide))), (fun h h2 => c3 (bit_ne h (by decide)) (bit_ne h2 (by decide))), (fun h => c4 (bit_ne h (by decide))), (fun h h2 => c5 (bit_ne h (by decide)) (bit_ne h2 (by decide))), (fun h => c6 (bit_ne h (by decide))), (fun h h2 => c7 (bit_ne h (by decide)) (bit_ne h2 (by decide))), (fun h h2 => c8 (bit_ne h (by decide)) (bit_ne h2 (by decide))), (fun h => c9 (bit_ne h (by decide))), (fun h h2 h3 h4 => d7_3 (bit_ne h (by decide)) (bit_ne h2 (by decide)) (bit_ne h3 (by decide)) (bit_ne h4 (by decide)))⟩
      · obtain rfl := Option.some.inj ho
        have hsz : 2 < listed.size := by rw [hls]; decide
        have hbw := hbW
        refine inv_val (w' := w) (.agg (v8 seed)) rfl rfl (exec_load_row 24 (.tmp 8) rfl (w0.heap.size + 1) rfl 24 _ _ (x1.below hbW (by omega)) Tryd.underlying24 rfl (id_info hs)) ?_
        exact ⟨s68, s69, (.agg (v8 seed)), s71, s72, s73, s74, s75, s76, s77, rfl, hbw, (fun h => c0 (bit_ne h (by decide))), (fun h => c1 (bit_ne h (by decide))), (fun _ => rfl), (fun h h2 => c3 (bit_ne h (by decide)) (bit_ne h2 (by decide))), (fun h => c4 (bit_ne h (by decide))), (fun h h2 => c5 (bit_ne h (by decide)) (bit_ne h2 (by decide))), (fun h => c6 (bit_ne h (by decide))), (fun h h2 => c7 (bit_ne h (by decide)) (bit_ne h2 (by decide))), (fun h h2 => c8 (bit_ne h (by decide)) (bit_ne h2 (by decide))), (fun h => c9 (bit_ne h (by decide))), (fun h h2 h3 h4 => d7_3 (bit_ne h (by decide)) (bit_ne h2 (by decide)) (bit_ne h3 (by decide)) (bit_ne h4 (by decide)))⟩
      · obtain rfl := Option.some.inj ho
        have hsz : 3 < listed.size := by rw [hls]; decide
        have hbw : Below B w9 (w.alloc (.cells (v8 []) 5)) := hbW.alloc (hsB hbW) _
        refine inv_val (.slice (some ⟨w.heap.size, 0, none⟩) 0 0) (w' := w.alloc (.cells (v8 []) 5)) rfl rfl (by kernel_rfl) ?_
        have me_d7_3 := fun (h : LitS w B s75 1 [by_]) => h.ne_new (m := 0)
        exact ⟨s68, s69, s70, (.slice (some ⟨w.heap.size, 0, none⟩) 0 0), s72, s73, s74, s75, s76, s77, rfl, hbw, (fun h => c0 (bit_ne h (by decide))), (fun h => c1 (bit_ne h (by decide))), (fun h => c2 (bit_ne h (by decide))), (fun _ _ => OwnS.new w B (hsB hbW)), (fun h => c4 (bit_ne h (by decide))), (fun h h2 => (c5 (bit_ne h (by decide)) (bit_ne h2 (by decide))).alloc _), (fun h => c6 (bit_ne h (by decide))), (fun h h2 => (c7 (bit_ne h (by decide)) (bit_ne h2 (by decide))).alloc _), (fun h h2 => (c8 (bit_ne h (by decide)) (bit_ne h2 (by decide))).alloc _), (fun h => (c9 (bit_ne h (by decide))).alloc _), (fun h h2 _ _ => me_d7_3 (c7 (bit_ne h (by decide)) (bit_ne h2 (by decide))))⟩
      · obtain rfl := Option.some.inj ho
        have hsz : 4 < listed.size := by rw [hls]; decide
        have hbw := hbW
        refine inv_val (w' := w) (.slice mp ml mc) rfl rfl rfl ?_
        exact ⟨s68, s69, s70, s71, (.slice mp ml mc), s73, s74, s75, s76, s77, rfl, hbw, (fun h => c0 (bit_ne h (by decide))), (fun h => c1 (bit_ne h (by decide))), (fun h => c2 (bit_ne h (by decide))), (fun h h2 => c3 (bit_ne h (by decide)) (bit_ne h2 (by decide))), (fun _ => rfl), (fun h h2 => c5 (bit_ne h (by decide)) (bit_ne h2 (by decide))), (fun h => c6 (bit_ne h (by decide))), (fun h h2 => c7 (bit_ne h (by decide)) (bit_ne h2 (by decide))), (fun h h2 => c8 (bit_ne h (by decide)) (bit_ne h2 (by decide))), (fun h => c9 (bit_ne h (by decide))), (fun h h2 h3 h4 => d7_3 (bit_ne h (by decide)) (bit_ne h2 (by decide)) (bit_ne h3 (by decide)) (bit_ne h4 (by decide)))⟩
      · obtain rfl := Option.some.inj ho
        have hsz : 5 < listed.size := by rw [hls]; decide
        have hdep3 : listed.getD 3 false = true := hall ⟨3, .data⟩ (by simp) (by rfl)
        obtain ⟨sp3, cap3, rfl, o3⟩ := c3 hdep3 hi
        have hdep4 : listed.getD 4 false = true := hall ⟨4, .data⟩ (by simp) (by rfl)
        obtain rfl := c4 hdep4
        refine inv_op rfl rfl (wp8g (.tmp 71) (.tmp 72) 28 5 rfl B Tryd.underlying28 info5 _ [] rfl o3 mp ml mc msg rfl hml hmn (hmb.below (xb.trans (hbW.mono (by omega)))) (by first | omega | (simp; omega) | simp) (hsB hbW) ?_)
        intro sp cap w' ow hb' hgg
        have hg := Grew.of hgg
        have hbw : Below B w9 w' := hbW.trans hb'
        have hown := o3
        rw [List.nil_append, hml] at ow ⊢
        exact ⟨s68, s69, s70, (.slice sp3 0 cap3), (.slice mp ml mc), (.slice sp ml cap), s74, s75, s76, s77, rfl, hbw, (fun h => c0 (bit_ne h (by decide))), (fun h => c1 (bit_ne h (by decide))), (fun h => c2 (bit_ne h (by decide))), (fun _ h2 => absurd (bit_on hsz) (by rw [h2]; decide)), (fun h => c4 (bit_ne h (by decide))), (fun _ _ => ⟨sp, cap, rfl, ow⟩), (fun h => c6 (bit_ne h (by decide))), (fun h h2 => (c7 (bit_ne h (by decide)) (bit_ne h2 (by decide))).grew hg (d7_3 (bit_ne h (by decide)) (bit_ne h2 (by decide)) hdep3 hi)), (fun h _ => absurd (hcl 8 _ rfl (bit_ne h (by decide)) ⟨5, .data⟩ (by simp) rfl) (by rw [hi]; decide)), (fun h => absurd (hcl 8 _ rfl (hcl 9 _ rfl (bit_ne h (by decide)) ⟨8, .data⟩ (by simp) rfl) ⟨5, .data⟩ (by simp) rfl) (by rw [hi]; decide)), (fun _ _ _ h4 => absurd (bit_on hsz) (by rw [h4]; decide))⟩
      · obtain rfl := Option.some.inj ho
        have hsz : 6 < listed.size := by rw [hls]; decide
        have hbw := hbW
        refine inv_val (w' := w) (.int .u8 by_) rfl rfl rfl ?_
        exact ⟨s68, s69, s70, s71, s72, s73, (.int .u8 by_), s75, s76, s77, rfl, hbw, (fun h => c0 (bit_ne h (by decide))), (fun h => c1 (bit_ne h (by decide))), (fun h => c2 (bit_ne h (by decide))), (fun h h2 => c3 (bit_ne h (by decide)) (bit_ne h2 (by decide))), (fun h => c4 (bit_ne h (by decide))), (fun h h2 => c5 (bit_ne h (by decide)) (bit_ne h2 (by decide))), (fun _ => rfl), (fun h h2 => c7 (bit_ne h (by decide)) (bit_ne h2 (by decide))), (fun h h2 => c8 (bit_ne h (by decide)) (bit_ne h2 (by decide))), (fun h => c9 (bit_ne h (by decide))), (fun h h2 h3 h4 => d7_3 (bit_ne h (by decide)) (bit_ne h2 (by decide)) (bit_ne h3 (by decide)) (bit_ne h4 (by decide)))⟩
      · obtain rfl := Option.some.inj ho
        have hsz : 7 < listed.size := by rw [hls]; decide
        have hdep6 : listed.getD 6 false = true := hall ⟨6, .data⟩ (by simp) (by rfl)
        obtain rfl := c6 hdep6
        have hbw : Below B w9 (w.alloc (.cells (v8 [by_]) 5)) := hbW.alloc (hsB hbW) _
        refine inv_val (.slice (some ⟨w.heap.size, 0, none⟩) 1 1) (w' := w.alloc (.cells (v8 [by_]) 5)) rfl rfl (by kernel_rfl) ?_
        exact ⟨s68, s69, s70, s71, s72, s73, (.int .u8 by_), (.slice (some ⟨w.heap.size, 0, none⟩) 1 1), s76, s77, rfl, hbw, (fun h => c0 (bit_ne h (by decide))), (fun h => c1 (bit_ne h (by decide))), (fun h => c2 (bit_ne h (by decide))), (fun h h2 => (c3 (bit_ne h (by decide)) (bit_ne h2 (by decide))).alloc _), (fun h => c4 (bit_ne h (by decide))), (fun h h2 => (c5 (bit_ne h (by decide)) (bit_ne h2 (by decide))).alloc _), (fun h => c6 (bit_ne h (by decide))), (fun _ _ => LitS.new w B (hsB hbW) 1 [by_] (by rfl)), (fun h h2 => (c8 (bit_ne h (by decide)) (bit_ne h2 (by decide))).alloc _), (fun h => (c9 (bit_ne h (by decide))).alloc _), (fun _ _ h3 h4 => litNew (c3 (bit_ne h3 (by decide)) (bit_ne h4 (by decide))))⟩
      · obtain rfl := Option.some.inj ho
        have hsz : 8 < listed.size := by rw [hls]; decide
        have hdep5 : listed.getD 5 false = true := hall ⟨5, .data⟩ (by simp) (by rfl)
        obtain ⟨sp5, cap5, rfl, o5⟩ := c5 hdep5 hi
        have hdep7 : listed.getD 7 false = true := hall ⟨7, .data⟩ (by simp) (by rfl)
        obtain ⟨b7, rfl, r7, hb7⟩ := c7 hdep7 hi
        refine inv_op rfl rfl (wp8g (.tmp 73) (.tmp 75) 28 5 rfl B Tryd.underlying28 info5 _ msg rfl o5 (some ⟨b7, 0, none⟩) 1 1 [by_] rfl rfl (fun h => by cases h) r7.bytes (by first | omega | (simp; omega) | simp) (hsB hbW) ?_)
        intro sp cap w' ow hb' hgg
        have hg := Grew.of hgg
        have hbw : Below B w9 w' := hbW.trans hb'
        have hown := o5
        rw [hMB] at ow ⊢
        exact ⟨s68, s69, s70, s71, s72, (.slice sp5 ml cap5), s74, (.slice (some ⟨b7, 0, none⟩) 1 1), (.slice sp (ml + 1) cap), s77, rfl, hbw, (fun h => c0 (bit_ne h (by decide))), (fun h => c1 (bit_ne h (by decide))), (fun h => c2 (bit_ne h (by decide))), (fun _ h2 => absurd hdep5 (by rw [bit_ne h2 (by decide)]; decide)), (fun h => c4 (bit_ne h (by decide))), (fun _ h2 => absurd (bit_on hsz) (by rw [h2]; decide)), (fun h => c6 (bit_ne h (by decide))), (fun _ h2 => absurd (bit_on hsz) (by rw [h2]; decide)), (fun _ _ => ⟨sp, cap, rfl, ow⟩), (fun h => absurd (hcl 9 _ rfl (bit_ne h (by decide)) ⟨8, .data⟩ (by simp) rfl) (by rw [hi]; decide)), (fun _ h2 _ _ => absurd (bit_on hsz) (by rw [h2]; decide))⟩
      · obtain rfl := Option.some.inj ho
        have hsz : 9 < listed.size := by rw [hls]; decide
        have hdep0 : listed.getD 0 false = true := hall ⟨0, .data⟩ (by simp) (by rfl)
        obtain rfl := c0 hdep0
        have hdep1 : listed.getD 1 false = true := hall ⟨1, .data⟩ (by simp) (by rfl)
        obtain rfl := c1 hdep1
        have hdep2 : listed.getD 2 false = true := hall ⟨2, .data⟩ (by simp) (by rfl)
        obtain rfl := c2 hdep2
        have hdep8 : listed.getD 8 false = true := hall ⟨8, .data⟩ (by simp) (by rfl)
        obtain ⟨sp8, cap8, rfl, o8⟩ := c8 hdep8 hi
        refine inv_call 17 #[.agg (v8 nm), .int .i64 q, .agg (v8 seed), .slice sp8 (ml + 1) cap8] _ rfl rfl (by kernel_rfl) (hSi2 sp8 cap8 w (hL.below (xb.trans (hbW.mono (by omega)))) o8.bytes) ?_
        rintro e w' ⟨gX, rfl, hgX, rX, hb⟩
        have hbw : Below B w9 w' := hbW.trans (hb.mono (hsB hbW))
        refine ⟨_, rfl, ?_⟩
        exact ⟨(.agg (v8 nm)), (.int .i64 q), (.agg (v8 seed)), s71, s72, s73, s74, s75, (.slice sp8 (ml + 1) cap8), (.slice (some ⟨gX, 0, none⟩) 4292 4292), rfl, hbw, (fun h => c0 (bit_ne h (by decide))), (fun h => c1 (bit_ne h (by decide))), (fun h => c2 (bit_ne h (by decide))), (fun h h2 => (c3 (bit_ne h (by decide)) (bit_ne h2 (by decide))).below hb), (fun h => c4 (bit_ne h (by decide))), (fun h h2 => (c5 (bit_ne h (by decide)) (bit_ne h2 (by decide))).below hb), (fun h => c6 (bit_ne h (by decide))), (fun h h2 => (c7 (bit_ne h (by decide)) (bit_ne h2 (by decide))).below hb), (fun _ h2 => absurd (bit_on hsz) (by rw [h2]; decide)), (fun _ => ⟨gX, rfl, rX, Nat.le_trans (hsB hbW) hgX⟩), (fun h h2 h3 h4 => d7_3 (bit_ne h (by decide)) (bit_ne h2 (by decide)) (bit_ne h3 (by decide)) (bit_ne h4 (by decide)))⟩
    · intro listed a w hall hJ
      obtain ⟨s68, s69, s70, s71, s72, s73, s74, s75, s76, s77, rfl, hbW, c0, c1, c2, c3, c4, c5, c6, c7, c8, c9, d7_3⟩ := hJ
      obtain rfl := c0 (hall 0 (by omega))
      obtain rfl := c1 (hall 1 (by omega))
      obtain rfl := c2 (hall 2 (by omega))
      obtain rfl := c4 (hall 4 (by omega))
      obtain rfl := c6 (hall 6 (by omega))
      obtain ⟨b9, rfl, r9, hb9⟩ := c9 (hall 9 (by omega))
      simp only [List.drop_succ_cons, List.drop_zero]
      have y0 := x0.below hbW (by omega)
      have y1 := x1.below hbW (by omega)
      have y3 := x3.below hbW (by omega)
      have y4 := x4.below hbW (by omega)
      have y5 := x5.below hbW (by omega)
      have y6 := x6.below hbW (by omega)
      have yb := xb.trans (hbW.mono (by omega))
      have hb9' : w9.heap.size ≤ b9 := hB ▸ hb9
      have y9 := r9
      clear x0 x1 x3 x4 x5 x6 xb c0 c1 c2 c3 c4 c5 c6 c7 c8 c9 d7_3 r9 hb9 hall hsB hbW hB listed hSi2
      clear B
      generalize w = wA at *
      go_upto_region 11 with fail
      have l0 := y0.lt
      have l1 := y1.lt
      have l3 := y3.lt
      have l4 := y4.lt
      have l5 := y5.lt
      have l6 := y6.lt
      have l9' := y9.lt
      have hneq : ∀ wx, (binOp .neq 24 (.agg (v8 PK)) (.agg (v8 PK))).run Tryd.prog wx = .ok (.bool false) wx := fun wx => by
        rw [run_neq_bytes wx 24 5 32 _ _ Tryd.underlying24 Tryd.underlying5 (by kernel_rfl) hPKl hPKl]; simp
      have hR0 : ∀ wx, Calls Tryd.prog 16 #[.agg (v8 nm), .int .i64 q, .agg (v8 seed)] wx fun e w' => e = .returned (.agg (v8 PK)) ∧ Below wx.heap.size wx w' := fun wx => by
        have := hR nm seed q wx hn hs
        rwa [hPKe] at this
      obtain ⟨SX, hSX⟩ : ∃ SX, strOfNums (SG.take 36) = SX := ⟨_, rfl⟩
      have h36a : (SG.take 36).length = 36 := by rw [List.length_take, hSG1]; rfl
      have h36b : (SG2.take 36).length = 36 := by rw [List.length_take, hSG2]; rfl
      have hcv : ∀ g wx, Bytes wx (some ⟨g, 0, none⟩) (SG.take 36) → (convert 28 9 (.slice (some ⟨g, 0, none⟩) 36 4292)).run Tryd.prog wx = .ok (.string SX) wx := fun g wx hb => by
        obtain ⟨b', o', e, hc⟩ := hb (by omega)
        have h := run_convert_bytes_arg (P := Tryd.prog) wx 28 5 Tryd.underlying28 Tryd.underlying5 b' o' 36 4292 (SG.take 36) h36a (fun i hi => by rw [hc i (by omega)]; rfl) 9 Tryd.underlying9
        rw [e, h, hSX]
      have eR : (SX.toList != SX.toList) = false := by simp
      refine region_tail 14 (by kernel_rfl) (by kernel_rfl) (by kernel_rfl) ?_
      apply Exists.intro
      refine ⟨fun ι _ W hb hc => ?_, fun wB hbB => ?_⟩
      · have t0 : ∀ i, Row (W i) w0.heap.size 22 (v8 nm) := fun i => y0.below (hb i) y0.lt
        have t1 : ∀ i, Row (W i) (w0.heap.size + 1) 24 (v8 seed) := fun i => y1.below (hb i) y1.lt
        have t3 : ∀ i, Row (W i) gk 24 (v8 PK) := fun i => y3.below (hb i) y3.lt
        have f1 : ∀ i, (convert 28 9 (.slice (some ⟨g1, 0, none⟩) 36 4292)).run Tryd.prog (W i) = .ok (.string SX) (W i) := fun i => hcv g1 _ ((y6.below (hb i) y6.lt).bytes.take 36)
        have f2 : ∀ i, (convert 28 9 (.slice (some ⟨b9, 0, none⟩) 36 4292)).run Tryd.prog (W i) = .ok (.string SX) (W i) := fun i => hcv b9 _ (by have := (y9.below (hb i) y9.lt).bytes.take 36; rwa [hhd] at this)
        simp only [List.take_succ_cons, List.take_zero]
        refine q_load_rowW 24 (.tmp 13) (by rfl) (by kernel_rfl) gk (by rfl) 24 _ _ t3 Tryd.underlying24 rfl (id_info hPKl) ?_
        simp only [Act.put, List.setIfInBounds_toArray, List.set_cons_succ, List.set_cons_zero]
        refine q_load_rowW 22 (.tmp 6) (by rfl) (by kernel_rfl) w0.heap.size (by rfl) 22 _ _ t0 Tryd.underlying22 rfl (name_info hn) ?_
        simp only [Act.put, List.setIfInBounds_toArray, List.set_cons_succ, List.set_cons_zero]
        go_big_quiet_step (fail)
        refine q_load_rowW 24 (.tmp 8) (by rfl) (by kernel_rfl) (w0.heap.size + 1) (by rfl) 24 _ _ t1 Tryd.underlying24 rfl (id_info hs) ?_
        simp only [Act.put, List.setIfInBounds_toArray, List.set_cons_succ, List.set_cons_zero]
        go_big_quiet_step ((go_at_call 16; exact (hR0 _).mono (fun e w' ⟨he, hw⟩ => ⟨he, hc _ _ hw⟩)))
        repeat (go_big_quiet_step (fail))
        exact wpQuiet_nil rfl
      · simp only [List.drop_succ_cons, List.drop_zero]
        have x0 := y0.below hbB l0
        have x1 := y1.below hbB l1
        have x3 := y3.below hbB l3
        have x4 := y4.below hbB l4
        have x5 := y5.below hbB l5
        have x6 := y6.below hbB l6
        have x9 := y9.below hbB l9'
        have xb := yb.trans (hbB.mono yb.size)
        have ls := hbB.size
        clear y0 y1 y3 y4 y5 y6 y9 yb hcv hneq hR0 hSX h36a h36b eR hhd hbB l0 l1 l3 l4 l5 l6 l9'
        have l0 := x0.lt
        have l1 := x1.lt
        have l3 := x3.lt
        have l4 := x4.lt
        have l5 := x5.lt
        have l6 := x6.lt
        have l9 := x9.lt
        have lb := xb.size
        clear ls
        have hwq : IntKind.i64.wrap (q + 1) = q + 1 := by rw [IntKind.wrap_i64]; omega
        have hR1 := fun wx => hR nm2 seed q wx hn2 hs
        have hR2 := fun wx => hR nm seed (q + 1) wx hn hs
        have hR3 := fun wx => hR nm sd2 q wx hn hs2
        have hP1 := fun wx hl => hP nm2 seed q wx hl hn2 hs
        have hP2 := fun wx hl => hP nm seed (q + 1) wx hl hn hs
        have hP3 := fun wx hl => hP nm sd2 q wx hl hn hs2
        have hK1 : (pubL S (nm2 ++ n4 q) seed).length = 32 := hS.len _
        have hK2 : (pubL S (nm ++ n4 (q + 1)) seed).length = 32 := hS.len _
        have hK3 : (pubL S (nm ++ n4 q) sd2).length = 32 := hS.len _
        clear hR hP hPKe
        generalize pubL S (nm2 ++ n4 q) seed = P1 at *
        generalize pubL S (nm ++ n4 (q + 1)) seed = P2 at *
        generalize pubL S (nm ++ n4 q) sd2 = P3 at *
        go_upto_region 13 with fail
        obtain ⟨B, hB⟩ : ∃ B, B = wB.heap.size := ⟨_, rfl⟩
        have hsB : ∀ {w : World}, Below B wB w → B ≤ w.heap.size := fun h => by have := h.size; omega
        refine region_invF 16 (by kernel_rfl) (by kernel_rfl) (fun a0 listed a w => ∃ s18 s19 s20 s93 s94 s95 s96 s97 s98 s99 s100 s101 s102 s103 s104 s105, a = (Act.put (Act.put (Act.put (Act.put (Act.put (Act.put (Act.put (Act.put (Act.put (Act.put (Act.put (Act.put (Act.put (Act.put (Act.put (Act.put a0 (some 18) s18) (some 19) s19) (some 20) s20) (some 93) s93) (some 94) s94) (some 95) s95) (some 96) s96) (some 97) s97) (some 98) s98) (some 99) s99) (some 100) s100) (some 101) s101) (some 102) s102) (some 103) s103) (some 104) s104) (some 105) s105) ∧ Below B wB w ∧ (listed.getD 0 false = true → s93 = .agg (v8 nm2)) ∧ (listed.getD 1 false = true → s94 = .int .i64 q) ∧ (listed.getD 2 false = true → s95 = .agg (v8 seed)) ∧ (listed.getD 3 false = true → s96 = (.agg (v8 P1))) ∧ (listed.getD 4 false = true → s97 = .agg (v8 nm)) ∧ (listed.getD 5 false = true → s98 = .int .i64 q) ∧ (listed.getD 6 false = true → s99 = .int .i64 (q + 1)) ∧ (listed.getD 7 false = true → s100 = .agg (v8 seed)) ∧ (listed.getD 8 false = true → s101 = (.agg (v8 P2))) ∧ (listed.getD 9 false = true → s102 = .agg (v8 nm)) ∧ (listed.getD 10 false = true → s103 = .int .i64 q) ∧ (listed.getD 11 false = true → s104 = .agg (v8 sd2)) ∧ (listed.getD 12 false = true → s105 = (.agg (v8 P3))) ∧ (listed.getD 13 false = true → VarS w B s18 24 (zer 32)) ∧ (listed.getD 14 false = true → VarS w B s19 24 (zer 32)) ∧ (listed.getD 15 false = true → VarS w B s20 24 (zer 32)) ∧ (listed.getD 14 false = true → listed.getD 13 false = true → s19 ≠ s18) ∧ (listed.getD 15 false = true → listed.getD 13 false = true → s20 ≠ s18) ∧ (listed.getD 15 false = true → listed.getD 14 false = true → s20 ≠ s19)) ?_ ?_ ?_
        all_goals simp only [Act.put, List.setIfInBounds_toArray, List.set_cons_succ, List.set_cons_zero]
        · exact ⟨_, _, _, _, _, _, _, _, _, _, _, _, _, _, _, _, rfl, (Below.refl B _).drew, (fun h => absurd h (by rw [getD_replicate_false]; decide)), (fun h => absurd h (by rw [getD_replicate_false]; decide)), (fun h => absurd h (by rw [getD_replicate_false]; decide)), (fun h => absurd h (by rw [getD_replicate_false]; decide)), (fun h => absurd h (by rw [getD_replicate_false]; decide)), (fun h => absurd h (by rw [getD_replicate_false]; decide)), (fun h => absurd h (by rw [getD_replicate_false]; decide)), (fun h => absurd h (by rw [getD_replicate_false]; decide)), (fun h => absurd h (by rw [getD_replicate_false]; decide)), (fun h => absurd h (by rw [getD_replicate_false]; decide)), (fun h => absurd h (by rw [getD_replicate_false]; decide)), (fun h => absurd h (by rw [getD_replicate_false]; decide)), (fun h => absurd h (by rw [getD_replicate_false]; decide)), (fun h => absurd h (by rw [getD_replicate_false]; decide)), (fun h => absurd h (by rw [getD_replicate_false]; decide)), (fun h => absurd h (by rw [getD_replicate_false]; decide)), (fun h => absurd h (by rw [getD_replicate_false]; decide)), (fun h => absurd h (by rw [getD_replicate_false]; decide)), (fun h => absurd h (by rw [getD_replicate_false]; decide))⟩
        · intro listed a w i o hls hJ hin ho hi hall hcl
          obtain ⟨s18, s19, s20, s93, s94, s95, s96, s97, s98, s99, s100, s101, s102, s103, s104, s105, rfl, hbW, c0, c1, c2, c3, c4, c5, c6, c7, c8, c9, c10, c11, c12, c13, c14, c15, e14_13, e15_13, e15_14⟩ := hJ
          rcases (by omega : i = 0 ∨ i = 1 ∨ i = 2 ∨ i = 3 ∨ i = 4 ∨ i = 5 ∨ i = 6 ∨ i = 7 ∨ i = 8 ∨ i = 9 ∨ i = 10 ∨ i = 11 ∨ i = 12 ∨ i = 13 ∨ i = 14 ∨ i = 15) with rfl | rfl | rfl | rfl | rfl | rfl | rfl | rfl | rfl | rfl | rfl | rfl | rfl | rfl | rfl | rfl
          · obtain rfl := Option.some.inj ho
            have hsz : 0 < listed.size := by rw [hls]; decide
            have hbw := hbW
            refine inv_val (w' := w) (.agg (v8 nm2)) rfl rfl (exec_load_row 22 (.tmp 14) rfl b4 rfl 22 _ _ (x4.below hbW (by omega)) Tryd.underlying22 rfl (name_info hn2)) ?_
            exact ⟨s18, s19, s20, (.agg (v8 nm2)), s94, s95, s96, s97, s98, s99, s100, s101, s102, s103, s104, s105, rfl, hbw, (fun _ => rfl), (fun h => c1 (bit_ne h (by decide))), (fun h => c2 (bit_ne h (by decide))), (fun h => c3 (bit_ne h (by decide))), (fun h => c4 (bit_ne h (by decide))), (fun h => c5 (bit_ne h (by decide))), (fun h => c6 (bit_ne h (by decide))), (fun h => c7 (bit_ne h (by decide))), (fun h => c8 (bit_ne h (by decide))), (fun h => c9 (bit_ne h (by decide))), (fun h => c10 (bit_ne h (by decide))), (fun h => c11 (bit_ne h (by decide))), (fun h => c12 (bit_ne h (by decide))), (fun h => c13 (bit_ne h (by decide))), (fun h => c14 (bit_ne h (by decide))), (fun h => c15 (bit_ne h (by decide))), (fun h h2 => e14_13 (bit_ne h (by decide)) (bit_ne h2 (by decide))), (fun h h2 => e15_13 (bit_ne h (by decide)) (bit_ne h2 (by decide))), (fun h h2 => e15_14 (bit_ne h (by decide)) (bit_ne h2 (by decide)))⟩
          · obtain rfl := Option.some.inj ho
            have hsz : 1 < listed.size := by rw [hls]; decide
            have hbw := hbW
            refine inv_val (w' := w) (.int .i64 q) rfl rfl rfl ?_
            exact ⟨s18, s19, s20, s93, (.int .i64 q), s95, s96, s97, s98, s99, s100, s101, s102, s103, s104, s105, rfl, hbw, (fun h => c0 (bit_ne h (by decide))), (fun _ => rfl), (fun h => c2 (bit_ne h (by decide))), (fun h => c3 (bit_ne h (by decide))), (fun h => c4 (bit_ne h (by decide))), (fun h => c5 (bit_ne h (by decide))), (fun h => c6 (bit_ne h (by decide))), (fun h => c7 (bit_ne h (by decide))), (fun h => c8 (bit_ne h (by decide))), (fun h => c9 (bit_ne h (by decide))), (fun h => c10 (bit_ne h (by decide))), (fun h => c11 (bit_ne h (by decide))), (fun h => c12 (bit_ne h (by decide))), (fun h => c13 (bit_ne h (by decide))), (fun h => c14 (bit_ne h (by decide))), (fun h => c15 (bit_ne h (by decide))), (fun h h2 => e14_13 (bit_ne h (by decide)) (bit_ne h2 (by decide))), (fun h h2 => e15_13 (bit_ne h (by decide)) (bit_ne h2 (by decide))), (fun h h2 => e15_14 (bit_ne h (by decide)) (bit_ne h2 (by decide)))⟩
          · obtain rfl := Option.some.inj ho
            have hsz : 2 < listed.size := by rw [hls]; decide
            have hbw := hbW
            refine inv_val (w' := w) (.agg (v8 seed)) rfl rfl (exec_load_row 24 (.tmp 8) rfl (w0.heap.size + 1) rfl 24 _ _ (x1.below hbW (by omega)) Tryd.underlying24 rfl (id_info hs)) ?_
            exact ⟨s18, s19, s20, s93, s94, (.agg (v8 seed)), s96, s97, s98, s99, s100, s101, s102, s103, s104, s105, rfl, hbw, (fun h => c0 (bit_ne h (by decide))), (fun h => c1 (bit_ne h (by decide))), (fun _ => rfl), (fun h => c3 (bit_ne h (by decide))), (fun h => c4 (bit_ne h (by decide))), (fun h => c5 (bit_ne h (by decide))), (fun h => c6 (bit_ne h (by decide))), (fun h => c7 (bit_ne h (by decide))), (fun h => c8 (bit_ne h (by decide))), (fun h => c9 (bit_ne h (by decide))), (fun h => c10 (bit_ne h (by decide))), (fun h => c11 (bit_ne h (by decide))), (fun h => c12 (bit_ne h (by decide))), (fun h => c13 (bit_ne h (by decide))), (fun h => c14 (bit_ne h (by decide))), (fun h => c15 (bit_ne h (by decide))), (fun h h2 => e14_13 (bit_ne h (by decide)) (bit_ne h2 (by decide))), (fun h h2 => e15_13 (bit_ne h (by decide)) (bit_ne h2 (by decide))), (fun h h2 => e15_14 (bit_ne h (by decide)) (bit_ne h2 (by decide)))⟩
          · obtain rfl := Option.some.inj ho
            have hsz : 3 < listed.size := by rw [hls]; decide
            have hdep0 : listed.getD 0 false = true := hall ⟨0, .data⟩ (by simp) (by rfl)
            obtain rfl := c0 hdep0
            have hdep1 : listed.getD 1 false = true := hall ⟨1, .data⟩ (by simp) (by rfl)
            obtain rfl := c1 hdep1
            have hdep2 : listed.getD 2 false = true := hall ⟨2, .data⟩ (by simp) (by rfl)
            obtain rfl := c2 hdep2
            refine inv_call 16 #[.agg (v8 nm2), .int .i64 q, .agg (v8 seed)] _ rfl rfl (by kernel_rfl) (hR1 w) ?_
            rintro e w' ⟨rfl, hb⟩
            have hbw : Below B wB w' := hbW.trans (hb.mono (hsB hbW))
            refine ⟨_, rfl, ?_⟩
            exact ⟨s18, s19, s20, (.agg (v8 nm2)), (.int .i64 q), (.agg (v8 seed)), ((.agg (v8 P1))), s97, s98, s99, s100, s101, s102, s103, s104, s105, rfl, hbw, (fun h => c0 (bit_ne h (by decide))), (fun h => c1 (bit_ne h (by decide))), (fun h => c2 (bit_ne h (by decide))), (fun _ => rfl), (fun h => c4 (bit_ne h (by decide))), (fun h => c5 (bit_ne h (by decide))), (fun h => c6 (bit_ne h (by decide))), (fun h => c7 (bit_ne h (by decide))), (fun h => c8 (bit_ne h (by decide))), (fun h => c9 (bit_ne h (by decide))), (fun h => c10 (bit_ne h (by decide))), (fun h => c11 (bit_ne h (by decide))), (fun h => c12 (bit_ne h (by decide))), (fun h => (c13 (bit_ne h (by decide))).below hb), (fun h => (c14 (bit_ne h (by decide))).below hb), (fun h => (c15 (bit_ne h (by decide))).below hb), (fun h h2 => e14_13 (bit_ne h (by decide)) (bit_ne h2 (by decide))), (fun h h2 => e15_13 (bit_ne h (by decide)) (bit_ne h2 (by decide))), (fun h h2 => e15_14 (bit_ne h (by decide)) (bit_ne h2 (by decide)))⟩
          · obtain rfl := Option.some.inj ho
            have hsz : 4 < listed.size := by rw [hls]; decide
            have hbw := hbW
            refine inv_val (w' := w) (.agg (v8 nm)) rfl rfl (exec_load_row 22 (.tmp 6) rfl w0.heap.size rfl 22 _ _ (x0.below hbW (by omega)) Tryd.underlying22 rfl (name_info hn)) ?_
            exact ⟨s18, s19, s20, s93, s94, s95, s96, (.agg (v8 nm)), s98, s99, s100, s101, s102, s103, s104, s105, rfl, hbw, (fun h => c0 (bit_ne h (by decide))), (fun h => c1 (bit_ne h (by decide))), (fun h => c2 (bit_ne h (by decide))), (fun h => c3 (bit_ne h (by decide))), (fun _ => rfl), (fun h => c5 (bit_ne h (by decide))), (fun h => c6 (bit_ne h (by decide))), (fun h => c7 (bit_ne h (by decide))), (fun h => c8 (bit_ne h (by decide))), (fun h => c9 (bit_ne h (by decide))), (fun h => c10 (bit_ne h (by decide))), (fun h => c11 (bit_ne h (by decide))), (fun h => c12 (bit_ne h (by decide))), (fun h => c13 (bit_ne h (by decide))), (fun h => c14 (bit_ne h (by decide))), (fun h => c15 (bit_ne h (by decide))), (fun h h2 => e14_13 (bit_ne h (by decide)) (bit_ne h2 (by decide))), (fun h h2 => e15_13 (bit_ne h (by decide)) (bit_ne h2 (by decide))), (fun h h2 => e15_14 (bit_ne h (by decide)) (bit_ne h2 (by decide)))⟩
          · obtain rfl := Option.some.inj ho
            have hsz : 5 < listed.size := by rw [hls]; decide
            have hbw := hbW
            refine inv_val (w' := w) (.int .i64 q) rfl rfl rfl ?_
            exact ⟨s18, s19, s20, s93, s94, s95, s96, s97, (.int .i64 q), s99, s100, s101, s102, s103, s104, s105, rfl, hbw, (fun h => c0 (bit_ne h (by decide))), (fun h => c1 (bit_ne h (by decide))), (fun h => c2 (bit_ne h (by decide))), (fun h => c3 (bit_ne h (by decide))), (fun h => c4 (bit_ne h (by decide))), (fun _ => rfl), (fun h => c6 (bit_ne h (by decide))), (fun h => c7 (bit_ne h (by decide))), (fun h => c8 (bit_ne h (by decide))), (fun h => c9 (bit_ne h (by decide))), (fun h => c10 (bit_ne h (by decide))), (fun h => c11 (bit_ne h (by decide))), (fun h => c12 (bit_ne h (by decide))), (fun h => c13 (bit_ne h (by decide))), (fun h => c14 (bit_ne h (by decide))), (fun h => c15 (bit_ne h (by decide))), (fun h h2 => e14_13 (bit_ne h (by decide)) (bit_ne h2 (by decide))), (fun h h2 => e15_13 (bit_ne h (by decide)) (bit_ne h2 (by decide))), (fun h h2 => e15_14 (bit_ne h (by decide)) (bit_ne h2 (by decide)))⟩
          · obtain rfl := Option.some.inj ho
            have hsz : 6 < listed.size := by rw [hls]; decide
            have hdep5 : listed.getD 5 false = true := hall ⟨5, .data⟩ (by simp) (by rfl)
            obtain rfl := c5 hdep5
            have hbw := hbW
            refine inv_val (w' := w) (.int .i64 (q + 1)) rfl rfl (by have hq := hwq; go_simp) ?_
            exact ⟨s18, s19, s20, s93, s94, s95, s96, s97, (.int .i64 q), (.int .i64 (q + 1)), s100, s101, s102, s103, s104, s105, rfl, hbw, (fun h => c0 (bit_ne h (by decide))), (fun h => c1 (bit_ne h (by decide))), (fun h => c2 (bit_ne h (by decide))), (fun h => c3 (bit_ne h (by decide))), (fun h => c4 (bit_ne h (by decide))), (fun h => c5 (bit_ne h (by decide))), (fun _ => rfl), (fun h => c7 (bit_ne h (by decide))), (fun h => c8 (bit_ne h (by decide))), (fun h => c9 (bit_ne h (by decide))), (fun h => c10 (bit_ne h (by decide))), (fun h => c11 (bit_ne h (by decide))), (fun h => c12 (bit_ne h (by decide))), (fun h => c13 (bit_ne h (by decide))), (fun h => c14 (bit_ne h (by decide))), (fun h => c15 (bit_ne h (by decide))), (fun h h2 => e14_13 (bit_ne h (by decide)) (bit_ne h2 (by decide))), (fun h h2 => e15_13 (bit_ne h (by decide)) (bit_ne h2 (by decide))), (fun h h2 => e15_14 (bit_ne h (by decide)) (bit_ne h2 (by decide)))⟩
          · obtain rfl := Option.some.inj ho
            have hsz : 7 < listed.size := by rw [hls]; decide
            have hbw := hbW
            refine inv_val (w' := w) (.agg (v8 seed)) rfl rfl (exec_load_row 24 (.tmp 8) rfl (w0.heap.size + 1) rfl 24 _ _ (x1.below hbW (by omega)) Tryd.underlying24 rfl (id_info hs)) ?_
            exact ⟨s18, s19, s20, s93, s94, s95, s96, s97, s98, s99, (.agg (v8 seed)), s101, s102, s103, s104, s105, rfl, hbw, (fun h => c0 (bit_ne h (by decide))), (fun h => c1 (bit_ne h (by decide))), (fun h => c2 (bit_ne h (by decide))), (fun h => c3 (bit_ne h (by decide))), (fun h => c4 (bit_ne h (by decide))), (fun h => c5 (bit_ne h (by decide))), (fun h => c6 (bit_ne h (by decide))), (fun _ => rfl), (fun h => c8 (bit_ne h (by decide))), (fun h => c9 (bit_ne h (by decide))), (fun h => c10 (bit_ne h (by decide))), (fun h => c11 (bit_ne h (by decide))), (fun h => c12 (bit_ne h (by decide))), (fun h => c13 (bit_ne h (by decide))), (fun h => c14 (bit_ne h (by decide))), (fun h => c15 (bit_ne h (by decide))), (fun h h2 => e14_13 (bit_ne h (by decide)) (bit_ne h2 (by decide))), (fun h h2 => e15_13 (bit_ne h (by decide)) (bit_ne h2 (by decide))), (fun h h2 => e15_14 (bit_ne h (by decide)) (bit_ne h2 (by decide)))⟩
          · obtain rfl := Option.some.inj ho
            have hsz : 8 < listed.size := by rw [hls]; decide
            have hdep4 : listed.getD 4 false = true := hall ⟨4, .data⟩ (by simp) (by rfl)
            obtain rfl := c4 hdep4
            have hdep6 : listed.getD 6 false = true := hall ⟨6, .data⟩ (by simp) (by rfl)
            obtain rfl := c6 hdep6
            have hdep7 : listed.getD 7 false = true := hall ⟨7, .data⟩ (by simp) (by rfl)
            obtain rfl := c7 hdep7
            refine inv_call 16 #[.agg (v8 nm), .int .i64 (q + 1), .agg (v8 seed)] _ rfl rfl (by kernel_rfl) (hR2 w) ?_
            rintro e w' ⟨rfl, hb⟩
            have hbw : Below B wB w' := hbW.trans (hb.mono (hsB hbW))
            refine ⟨_, rfl, ?_⟩
            exact ⟨s18, s19, s20, s93, s94, s95, s96, (.agg (v8 nm)), s98, (.int .i64 (q + 1)), (.agg (v8 seed)), ((.agg (v8 P2))), s102, s103, s104, s105, rfl, hbw, (fun h => c0 (bit_ne h (by decide))), (fun h => c1 (bit_ne h (by decide))), (fun h => c2 (bit_ne h (by decide))), (fun h => c3 (bit_ne h (by decide))), (fun h => c4 (bit_ne h (by decide))), (fun h => c5 (bit_ne h (by decide))), (fun h => c6 (bit_ne h (by decide))), (fun h => c7 (bit_ne h (by decide))), (fun _ => rfl), (fun h => c9 (bit_ne h (by decide))), (fun h => c10 (bit_ne h (by decide))), (fun h => c11 (bit_ne h (by decide))), (fun h => c12 (bit_ne h (by decide))), (fun h => (c13 (bit_ne h (by decide))).below hb), (fun h => (c14 (bit_ne h (by decide))).below hb), (fun h => (c15 (bit_ne h (by decide))).below hb), (fun h h2 => e14_13 (bit_ne h (by decide)) (bit_ne h2 (by decide))), (fun h h2 => e15_13 (bit_ne h (by decide)) (bit_ne h2 (by decide))), (fun h h2 => e15_14 (bit_ne h (by decide)) (bit_ne h2 (by decide)))⟩
          · obtain rfl := Option.some.inj ho
            have hsz : 9 < listed.size := by rw [hls]; decide
            have hbw := hbW
            refine inv_val (w' := w) (.agg (v8 nm)) rfl rfl (exec_load_row 22 (.tmp 6) rfl w0.heap.size rfl 22 _ _ (x0.below hbW (by omega)) Tryd.underlying22 rfl (name_info hn)) ?_
            exact ⟨s18, s19, s20, s93, s94, s95, s96, s97, s98, s99, s100, s101, (.agg (v8 nm)), s103, s104, s105, rfl, hbw, (fun h => c0 (bit_ne h (by decide))), (fun h => c1 (bit_ne h (by decide))), (fun h => c2 (bit_ne h (by decide))), (fun h => c3 (bit_ne h (by decide))), (fun h => c4 (bit_ne h (by decide))), (fun h => c5 (bit_ne h (by decide))), (fun h => c6 (bit_ne h (by decide))), (fun h => c7 (bit_ne h (by decide))), (fun h => c8 (bit_ne h (by decide))), (fun _ => rfl), (fun h => c10 (bit_ne h (by decide))), (fun h => c11 (bit_ne h (by decide))), (fun h => c12 (bit_ne h (by decide))), (fun h => c13 (bit_ne h (by decide))), (fun h => c14 (bit_ne h (by decide))), (fun h => c15 (bit_ne h (by decide))), (fun h h2 => e14_13 (bit_ne h (by decide)) (bit_ne h2 (by decide))), (fun h h2 => e15_13 (bit_ne h (by decide)) (bit_ne h2 (by decide))), (fun h h2 => e15_14 (bit_ne h (by decide)) (bit_ne h2 (by decide)))⟩
          · obtain rfl := Option.some.inj ho
            have hsz : 10 < listed.size := by rw [hls]; decide
            have hbw := hbW
            refine inv_val (w' := w) (.int .i64 q) rfl rfl rfl ?_
            exact ⟨s18, s19, s20, s93, s94, s95, s96, s97, s98, s99, s100, s101, s102, (.int .i64 q), s104, s105, rfl, hbw, (fun h => c0 (bit_ne h (by decide))), (fun h => c1 (bit_ne h (by decide))), (fun h => c2 (bit_ne h (by decide))), (fun h => c3 (bit_ne h (by decide))), (fun h => c4 (bit_ne h (by decide))), (fun h => c5 (bit_ne h (by decide))), (fun h => c6 (bit_ne h (by decide))), (fun h => c7 (bit_ne h (by decide))), (fun h => c8 (bit_ne h (by decide))), (fun h => c9 (bit_ne h (by decide))), (fun _ => rfl), (fun h => c11 (bit_ne h (by decide))), (fun h => c12 (bit_ne h (by decide))), (fun h => c13 (bit_ne h (by decide))), (fun h => c14 (bit_ne h (by decide))), (fun h => c15 (bit_ne h (by decide))), (fun h h2 => e14_13 (bit_ne h (by decide)) (bit_ne h2 (by decide))), (fun h h2 => e15_13 (bit_ne h (by decide)) (bit_ne h2 (by decide))), (fun h h2 => e15_14 (bit_ne h (by decide)) (bit_ne h2 (by decide)))⟩
          · obtain rfl := Option.some.inj ho
            have hsz : 11 < listed.size := by rw [hls]; decide
            have hbw := hbW
            refine inv_val (w' := w) (.agg (v8 sd2)) rfl rfl (exec_load_row 24 (.tmp 15) rfl b3 rfl 24 _ _ (x5.below hbW (by omega)) Tryd.underlying24 rfl (id_info hs2)) ?_
            exact ⟨s18, s19, s20, s93, s94, s95, s96, s97, s98, s99, s100, s101, s102, s103, (.agg (v8 sd2)), s105, rfl, hbw, (fun h => c0 (bit_ne h (by decide))), (fun h => c1 (bit_ne h (by decide))), (fun h => c2 (bit_ne h (by decide))), (fun h => c3 (bit_ne h (by decide))), (fun h => c4 (bit_ne h (by decide))), (fun h => c5 (bit_ne h (by decide))), (fun h => c6 (bit_ne h (by decide))), (fun h => c7 (bit_ne h (by decide))), (fun h => c8 (bit_ne h (by decide))), (fun h => c9 (bit_ne h (by decide))), (fun h => c10 (bit_ne h (by decide))), (fun _ => rfl), (fun h => c12 (bit_ne h (by decide))), (fun h => c13 (bit_ne h (by decide))), (fun h => c14 (bit_ne h (by decide))), (fun h => c15 (bit_ne h (by decide))), (fun h h2 => e14_13 (bit_ne h (by decide)) (bit_ne h2 (by decide))), (fun h h2 => e15_13 (bit_ne h (by decide)) (bit_ne h2 (by decide))), (fun h h2 => e15_14 (bit_ne h (by decide)) (bit_ne h2 (by decide)))⟩
          · obtain rfl := Option.some.inj ho
            have hsz : 12 < listed.size := by rw [hls]; decide
            have hdep9 : listed.getD 9 false = true := hall ⟨9, .data⟩ (by simp) (by rfl)
            obtain rfl := c9 hdep9
            have hdep10 : listed.getD 10 false = true := hall ⟨10, .data⟩ (by simp) (by rfl)
            obtain rfl := c10 hdep10
            have hdep11 : listed.getD 11 false = true := hall ⟨11, .data⟩ (by simp) (by rfl)
            obtain rfl := c11 hdep11
            refine inv_call 16 #[.agg (v8 nm), .int .i64 q, .agg (v8 sd2)] _ rfl rfl (by kernel_rfl) (hR3 w) ?_
            rintro e w' ⟨rfl, hb⟩
            have hbw : Below B wB w' := hbW.trans (hb.mono (hsB hbW))
            refine ⟨_, rfl, ?_⟩
            exact ⟨s18, s19, s20, s93, s94, s95, s96, s97, s98, s99, s100, s101, (.agg (v8 nm)), (.int .i64 q), (.agg (v8 sd2)), ((.agg (v8 P3))), rfl, hbw, (fun h => c0 (bit_ne h (by decide))), (fun h => c1 (bit_ne h (by decide))), (fun h => c2 (bit_ne h (by decide))), (fun h => c3 (bit_ne h (by decide))), (fun h => c4 (bit_ne h (by decide))), (fun h => c5 (bit_ne h (by decide))), (fun h => c6 (bit_ne h (by decide))), (fun h => c7 (bit_ne h (by decide))), (fun h => c8 (bit_ne h (by decide))), (fun h => c9 (bit_ne h (by decide))), (fun h => c10 (bit_ne h (by decide))), (fun h => c11 (bit_ne h (by decide))), (fun _ => rfl), (fun h => (c13 (bit_ne h (by decide))).below hb), (fun h => (c14 (bit_ne h (by decide))).below hb), (fun h => (c15 (bit_ne h (by decide))).below hb), (fun h h2 => e14_13 (bit_ne h (by decide)) (bit_ne h2 (by decide))), (fun h h2 => e15_13 (bit_ne h (by decide)) (bit_ne h2 (by decide))), (fun h h2 => e15_14 (bit_ne h (by decide)) (bit_ne h2 (by decide)))⟩
          · obtain rfl := Option.some.inj ho
            have hsz : 13 < listed.size := by rw [hls]; decide
            have hbw : Below B wB (w.alloc (.cells (v8 (zer 32)) 24)) := hbW.alloc (hsB hbW) _
            refine inv_val (.pointer (some ⟨w.heap.size, 0, none⟩)) (w' := w.alloc (.cells (v8 (zer 32)) 24)) rfl rfl (by kernel_rfl) ?_
            exact ⟨(.pointer (some ⟨w.heap.size, 0, none⟩)), s19, s20, s93, s94, s95, s96, s97, s98, s99, s100, s101, s102, s103, s104, s105, rfl, hbw, (fun h => c0 (bit_ne h (by decide))), (fun h => c1 (bit_ne h (by decide))), (fun h => c2 (bit_ne h (by decide))), (fun h => c3 (bit_ne h (by decide))), (fun h => c4 (bit_ne h (by decide))), (fun h => c5 (bit_ne h (by decide))), (fun h => c6 (bit_ne h (by decide))), (fun h => c7 (bit_ne h (by decide))), (fun h => c8 (bit_ne h (by decide))), (fun h => c9 (bit_ne h (by decide))), (fun h => c10 (bit_ne h (by decide))), (fun h => c11 (bit_ne h (by decide))), (fun h => c12 (bit_ne h (by decide))), (fun _ => VarS.new w B (hsB hbW) _ _), (fun h => (c14 (bit_ne h (by decide))).alloc _), (fun h => (c15 (bit_ne h (by decide))).alloc _), (fun h _ => (var_new (c14 (bit_ne h (by decide)))).symm), (fun h _ => (var_new (c15 (bit_ne h (by decide)))).symm), (fun h h2 => e15_14 (bit_ne h (by decide)) (bit_ne h2 (by decide)))⟩
          · obtain rfl := Option.some.inj ho
            have hsz : 14 < listed.size := by rw [hls]; decide
            have hbw : Below B wB (w.alloc (.cells (v8 (zer 32)) 24)) := hbW.alloc (hsB hbW) _
            refine inv_val (.pointer (some ⟨w.heap.size, 0, none⟩)) (w' := w.alloc (.cells (v8 (zer 32)) 24)) rfl rfl (by kernel_rfl) ?_
            exact ⟨s18, (.pointer (some ⟨w.heap.size, 0, none⟩)), s20, s93, s94, s95, s96, s97, s98, s99, s100, s101, s102, s103, s104, s105, rfl, hbw, (fun h => c0 (bit_ne h (by decide))), (fun h => c1 (bit_ne h (by decide))), (fun h => c2 (bit_ne h (by decide))), (fun h => c3 (bit_ne h (by decide))), (fun h => c4 (bit_ne h (by decide))), (fun h => c5 (bit_ne h (by decide))), (fun h => c6 (bit_ne h (by decide))), (fun h => c7 (bit_ne h (by decide))), (fun h => c8 (bit_ne h (by decide))), (fun h => c9 (bit_ne h (by decide))), (fun h => c10 (bit_ne h (by decide))), (fun h => c11 (bit_ne h (by decide))), (fun h => c12 (bit_ne h (by decide))), (fun h => (c13 (bit_ne h (by decide))).alloc _), (fun _ => VarS.new w B (hsB hbW) _ _), (fun h => (c15 (bit_ne h (by decide))).alloc _), (fun _ h2 => var_new (c13 (bit_ne h2 (by decide)))), (fun h h2 => e15_13 (bit_ne h (by decide)) (bit_ne h2 (by decide))), (fun h _ => (var_new (c15 (bit_ne h (by decide)))).symm)⟩
          · obtain rfl := Option.some.inj ho
            have hsz : 15 < listed.size := by rw [hls]; decide
            have hbw : Below B wB (w.alloc (.cells (v8 (zer 32)) 24)) := hbW.alloc (hsB hbW) _
            refine inv_val (.pointer (some ⟨w.heap.size, 0, none⟩)) (w' := w.alloc (.cells (v8 (zer 32)) 24)) rfl rfl (by kernel_rfl) ?_
            exact ⟨s18, s19, (.pointer (some ⟨w.heap.size, 0, none⟩)), s93, s94, s95, s96, s97, s98, s99, s100, s101, s102, s103, s104, s105, rfl, hbw, (fun h => c0 (bit_ne h (by decide))), (fun h => c1 (bit_ne h (by decide))), (fun h => c2 (bit_ne h (by decide))), (fun h => c3 (bit_ne h (by decide))), (fun h => c4 (bit_ne h (by decide))), (fun h => c5 (bit_ne h (by decide))), (fun h => c6 (bit_ne h (by decide))), (fun h => c7 (bit_ne h (by decide))), (fun h => c8 (bit_ne h (by decide))), (fun h => c9 (bit_ne h (by decide))), (fun h => c10 (bit_ne h (by decide))), (fun h => c11 (bit_ne h (by decide))), (fun h => c12 (bit_ne h (by decide))), (fun h => (c13 (bit_ne h (by decide))).alloc _), (fun h => (c14 (bit_ne h (by decide))).alloc _), (fun _ => VarS.new w B (hsB hbW) _ _), (fun h h2 => e14_13 (bit_ne h (by decide)) (bit_ne h2 (by decide))), (fun _ h2 => var_new (c13 (bit_ne h2 (by decide)))), (fun _ h2 => var_new (c14 (bit_ne h2 (by decide))))⟩
        · intro listed a w hall hJ
          obtain ⟨s18, s19, s20, s93, s94, s95, s96, s97, s98, s99, s100, s101, s102, s103, s104, s105, rfl, hbW, c0, c1, c2, c3, c4, c5, c6, c7, c8, c9, c10, c11, c12, c13, c14, c15, e14_13, e15_13, e15_14⟩ := hJ
          obtain rfl := c0 (hall 0 (by omega))
          obtain rfl := c1 (hall 1 (by omega))
          obtain rfl := c2 (hall 2 (by omega))
          obtain rfl := c3 (hall 3 (by omega))
          obtain rfl := c4 (hall 4 (by omega))
          obtain rfl := c5 (hall 5 (by omega))
          obtain rfl := c6 (hall 6 (by omega))
          obtain rfl := c7 (hall 7 (by omega))
          obtain rfl := c8 (hall 8 (by omega))
          obtain rfl := c9 (hall 9 (by omega))
          obtain rfl := c10 (hall 10 (by omega))
          obtain rfl := c11 (hall 11 (by omega))
          obtain rfl := c12 (hall 12 (by omega))
          obtain ⟨b13, rfl, r13, hb13⟩ := c13 (hall 13 (by omega))
          obtain ⟨b14, rfl, r14, hb14⟩ := c14 (hall 14 (by omega))
          obtain ⟨b15, rfl, r15, hb15⟩ := c15 (hall 15 (by omega))
          simp only [List.drop_succ_cons, List.drop_zero]
          have n1413 : b14 ≠ b13 := fun e => e14_13 (hall 14 (by omega)) (hall 13 (by omega)) (by rw [e])
          have n1513 : b15 ≠ b13 := fun e => e15_13 (hall 15 (by omega)) (hall 13 (by omega)) (by rw [e])
          have n1514 : b15 ≠ b14 := fun e => e15_14 (hall 15 (by omega)) (hall 14 (by omega)) (by rw [e])
          have hk13 : wB.heap.size ≤ b13 := hB ▸ hb13
          have hk14 : wB.heap.size ≤ b14 := hB ▸ hb14
          have hk15 : wB.heap.size ≤ b15 := hB ▸ hb15
          have y0 := x0.below hbW (by omega)
          have y1 := x1.below hbW (by omega)
          have y3 := x3.below hbW (by omega)
          have y4 := x4.below hbW (by omega)
          have y5 := x5.below hbW (by omega)
          have y6 := x6.below hbW (by omega)
          have y9 := x9.below hbW (by omega)
          have yb := xb.trans (hbW.mono (by omega))
          clear x0 x1 x3 x4 x5 x6 x9 xb c0 c1 c2 c3 c4 c5 c6 c7 c8 c9 c10 c11 c12 c13 c14 c15 e14_13 e15_13 e15_14 hb13 hb14 hb15 hall hsB hbW hB listed hR1 hR2 hR3
          clear B
          generalize w = wC at *
          refine store_row0 24 (.tmp 18) (.tmp 96) (by rfl) (by rfl) (by rfl) b13 (v8 P1) (by rfl) (by rfl) 24 (v8 (zer 32)) r13 (id_info hK1) (by rw [v8_size, v8_size, hK1]; rfl) (v8_one _) ?_
          have m14 := r14.setRowOther (g := b13) n1413 (v8 P1)
          have m15 := r15.setRowOther (g := b13) n1513 (v8 P1)
          have m13 := r13.setRow (v8 P1)
          refine store_row0 24 (.tmp 19) (.tmp 101) (by rfl) (by rfl) (by rfl) b14 (v8 P2) (by rfl) (by rfl) 24 (v8 (zer 32)) m14 (id_info hK2) (by rw [v8_size, v8_size, hK2]; rfl) (v8_one _) ?_
          have k15 := m15.setRowOther (g := b14) n1514 (v8 P2)
          have k14 := m14.setRow (v8 P2)
          have k13 := m13.setRowOther (g := b14) n1413.symm (v8 P2)
          refine store_row0 24 (.tmp 20) (.tmp 105) (by rfl) (by rfl) (by rfl) b15 (v8 P3) (by rfl) (by rfl) 24 (v8 (zer 32)) k15 (id_info hK3) (by rw [v8_size, v8_size, hK3]; rfl) (v8_one _) ?_
          have x0 := ((y0.setRowOther (g := b13) (by omega) (v8 P1)).setRowOther (g := b14) (by omega) (v8 P2)).setRowOther (g := b15) (by omega) (v8 P3)
          have x1 := ((y1.setRowOther (g := b13) (by omega) (v8 P1)).setRowOther (g := b14) (by omega) (v8 P2)).setRowOther (g := b15) (by omega) (v8 P3)
          have x3 := ((y3.setRowOther (g := b13) (by omega) (v8 P1)).setRowOther (g := b14) (by omega) (v8 P2)).setRowOther (g := b15) (by omega) (v8 P3)
          have x4 := ((y4.setRowOther (g := b13) (by omega) (v8 P1)).setRowOther (g := b14) (by omega) (v8 P2)).setRowOther (g := b15) (by omega) (v8 P3)
          have x5 := ((y5.setRowOther (g := b13) (by omega) (v8 P1)).setRowOther (g := b14) (by omega) (v8 P2)).setRowOther (g := b15) (by omega) (v8 P3)
          have x6 := ((y6.setRowOther (g := b13) (by omega) (v8 P1)).setRowOther (g := b14) (by omega) (v8 P2)).setRowOther (g := b15) (by omega) (v8 P3)
          have x9 := ((y9.setRowOther (g := b13) (by omega) (v8 P1)).setRowOther (g := b14) (by omega) (v8 P2)).setRowOther (g := b15) (by omega) (v8 P3)
          have z13 := k13.setRowOther (g := b15) n1513.symm (v8 P3)
          have z14 := k14.setRowOther (g := b15) n1514.symm (v8 P3)
          have z15 := k15.setRow (v8 P3)
          have xb := below_setRow (g := b15) (below_setRow (g := b14) (below_setRow (g := b13) yb (by omega) (v8 P1)) (by omega) (v8 P2)) (by omega) (v8 P3)
          clear y0 y1 y3 y4 y5 y6 y9 yb r13 r14 r15 m13 m14 m15 k13 k14 k15
          generalize ((wC.setRow b13 (v8 P1)).setRow b14 (v8 P2)).setRow b15 (v8 P3) = wD at *
          go_upto_region 14 with fail
          have l0 := x0.lt
          have l1 := x1.lt
          have l3 := x3.lt
          have l4 := x4.lt
          have l5 := x5.lt
          have l6 := x6.lt
          have l9 := x9.lt
          have lz1 := z13.lt
          have lz2 := z14.lt
          have lz3 := z15.lt
          have lb := xb.size
          clear hk13 hk14 hk15
          obtain ⟨B, hB⟩ : ∃ B, B = wD.heap.size := ⟨_, rfl⟩
          have hsB : ∀ {w : World}, Below B wD w → B ≤ w.heap.size := fun h => by have := h.size; omega
          refine region_invF 18 (by kernel_rfl) (by kernel_rfl) (fun a0 listed a w => ∃ s106 s107 s108 s109 s110 s111 s112 s113 s114 s115 s116 s117 s118 s119 s120 s121 s122 s123, a = (Act.put (Act.put (Act.put (Act.put (Act.put (Act.put (Act.put (Act.put (Act.put (Act.put (Act.put (Act.put (Act.put (Act.put (Act.put (Act.put (Act.put (Act.put a0 (some 106) s106) (some 107) s107) (some 108) s108) (some 109) s109) (some 110) s110) (some 111) s111) (some 112) s112) (some 113) s113) (some 114) s114) (some 115) s115) (some 116) s116) (some 117) s117) (some 118) s118) (some 119) s119) (some 120) s120) (some 121) s121) (some 122) s122) (some 123) s123) ∧ Below B wD w ∧ (listed.getD 0 false = true → s106 = .agg (v8 nm)) ∧ (listed.getD 1 false = true → s107 = .int .i64 q) ∧ (listed.getD 2 false = true → s108 = .agg (v8 seed)) ∧ (listed.getD 3 false = true → s109 = .slice mp ml mc) ∧ (listed.getD 4 false = true → listed.getD 5 false = false → OwnS w B s110 4292 SG) ∧ (listed.getD 5 false = true → s111 = .string (strOfNums SG)) ∧ (listed.getD 6 false = true → s112 = .agg (v8 nm)) ∧ (listed.getD 7 false = true → s113 = .int .i64 q) ∧ (listed.getD 8 false = true → s114 = .agg (v8 seed)) ∧ (listed.getD 9 false = true → listed.getD 11 false = false → OwnS w B s115 0 []) ∧ (listed.getD 10 false = true → s116 = .slice mp ml mc) ∧ (listed.getD 11 false = true → listed.getD 14 false = false → OwnS w B s117 ml msg) ∧ (listed.getD 12 false = true → s118 = .int .u8 by_) ∧ (listed.getD 13 false = true → listed.getD 14 false = false → LitS w B s119 1 [by_]) ∧ (listed.getD 14 false = true → listed.getD 15 false = false → OwnS w B s120 (ml + 1) (msg ++ [by_])) ∧ (listed.getD 15 false = true → listed.getD 16 false = false → OwnS w B s121 4292 SG2) ∧ (listed.getD 16 false = true → s122 = .string (strOfNums SG2)) ∧ (listed.getD 17 false = true → s123 = .bool ((strOfNums SG).toList == (strOfNums SG2).toList)) ∧ (listed.getD 4 false = true → listed.getD 5 false = false → listed.getD 9 false = true → listed.getD 11 false = false → s110.ownBlock ≠ s115.ownBlock) ∧ (listed.getD 4 false = true → listed.getD 5 false = false → listed.getD 11 false = true → listed.getD 14 false = false → s110.ownBlock ≠ s117.ownBlock) ∧ (listed.getD 13 false = true → listed.getD 14 false = false → listed.getD 9 false = true → listed.getD 11 false = false → s119.ownBlock ≠ s115.ownBlock)) ?_ ?_ ?_
          all_goals simp only [Act.put, List.setIfInBounds_toArray, List.set_cons_succ, List.set_cons_zero]
          · exact ⟨_, _, _, _, _, _, _, _, _, _, _, _, _, _, _, _, _, _, rfl, (Below.refl B _).drew, (fun h => absurd h (by rw [getD_replicate_false]; decide)), (fun h => absurd h (by rw [getD_replicate_false]; decide)), (fun h => absurd h (by rw [getD_replicate_false]; decide)), (fun h => absurd h (by rw [getD_replicate_false]; decide)), (fun h => absurd h (by rw [getD_replicate_false]; decide)), (fun h => absurd h (by rw [getD_replicate_false]; decide)), (fun h => absurd h (by rw [getD_replicate_false]; decide)), (fun h => absurd h (by rw [getD_replicate_false]; decide)), (fun h => absurd h (by rw [getD_replicate_false]; decide)), (fun h => absurd h (by rw [getD_replicate_false]; decide)), (fun h => absurd h (by rw [getD_replicate_false]; decide)), (fun h => absurd h (by rw [getD_replicate_false]; decide)), (fun h => absurd h (by rw [getD_replicate_false]; decide)), (fun h => absurd h (by rw [getD_replicate_false]; decide)), (fun h => absurd h (by rw [getD_replicate_false]; decide)), (fun h => absurd h (by rw [getD_replicate_false]; decide)), (fun h => absurd h (by rw [getD_replicate_false]; decide)), (fun h => absurd h (by rw [getD_replicate_false]; decide)), (fun h => absurd h (by rw [getD_replicate_false]; decide)), (fun h => absurd h (by rw [getD_replicate_false]; decide)), (fun h => absurd h (by rw [getD_replicate_false]; decide))⟩
          · intro listed a w i o hls hJ hin ho hi hall hcl
            obtain ⟨s106, s107, s108, s109, s110, s111, s112, s113, s114, s115, s116, s117, s118, s119, s120, s121, s122, s123, rfl, hbW, c0, c1, c2, c3, c4, c5, c6, c7, c8, c9, c10, c11, c12, c13, c14, c15, c16, c17, d4_9, d4_11, d13_9⟩ := hJ
            rcases (by omega : i = 0 ∨ i = 1 ∨ i = 2 ∨ i = 3 ∨ i = 4 ∨ i = 5 ∨ i = 6 ∨ i = 7 ∨ i = 8 ∨ i = 9 ∨ i = 10 ∨ i = 11 ∨ i = 12 ∨ i = 13 ∨ i = 14 ∨ i = 15 ∨ i = 16 ∨ i = 17) with rfl | rfl | rfl | rfl | rfl | rfl | rfl | rfl | rfl | rfl | rfl | rfl | rfl | rfl | rfl | rfl | rfl | rfl
            · obtain rfl := Option.some.inj ho
              have hsz : 0 < listed.size := by rw [hls]; decide
              have hbw := hbW
              refine inv_val (w' := w) (.agg (v8 nm)) rfl rfl (exec_load_row 22 (.tmp 6) rfl w0.heap.size rfl 22 _ _ (x0.below hbW (by omega)) Tryd.underlying22 rfl (name_info hn)) ?_
              exact ⟨(.agg (v8 nm)), s107, s108, s109, s110, s111, s112, s113, s114, s115, s116, s117, s118, s119, s120, s121, s122, s123, rfl, hbw, (fun _ => rfl), (fun h => c1 (bit_ne h (by decide))), (fun h => c2 (bit_ne h (by decide))), (fun h => c3 (bit_ne h (by decide))), (fun h h2 => c4 (bit_ne h (by decide)) (bit_ne h2 (by decide))), (fun h => c5 (bit_ne h (by decide))), (fun h => c6 (bit_ne h (by decide))), (fun h => c7 (bit_ne h (by decide))), (fun h => c8 (bit_ne h (by decide))), (fun h h2 => c9 (bit_ne h (by decide)) (bit_ne h2 (by decide))), (fun h => c10 (bit_ne h (by decide))), (fun h h2 => c11 (bit_ne h (by decide)) (bit_ne h2 (by decide))), (fun h => c12 (bit_ne h (by decide))), (fun h h2 => c13 (bit_ne h (by decide)) (bit_ne h2 (by decide))), (fun h h2 => c14 (bit_ne h (by decide)) (bit_ne h2 (by decide))), (fun h h2 => c15 (bit_ne h (by decide)) (bit_ne h2 (by decide))), (fun h => c16 (bit_ne h (by decide))), (fun h => c17 (bit_ne h (by decide))), (fun h h2 h3 h4 => d4_9 (bit_ne h (by decide)) (bit_ne h2 (by decide)) (bit_ne h3 (by decide)) (bit_ne h4 (by decide))), (fun h h2 h3 h4 => d4_11 (bit_ne h (by decide)) (bit_ne h2 (by decide)) (bit_ne h3 (by decide)) (bit_ne h4 (by decide))), (fun h h2 h3 h4 => d13_9 (bit_ne h (by decide)) (bit_ne h2 (by decide)) (bit_ne h3 (by decide)) (bit_ne h4 (by decide)))⟩
            · obtain rfl := Option.some.inj ho
              have hsz : 1 < listed.size := by rw [hls]; decide
              have hbw := hbW
              refine inv_val (w' := w) (.int .i64 q) rfl rfl rfl ?_
              exact ⟨s106, (.int .i64 q), s108, s109, s110, s111, s112, s113, s114, s115, s116, s117, s118, s119, s120, s121, s122, s123, rfl, hbw, (fun h => c0 (bit_ne h (by decide))), (fun _ => rfl), (fun h => c2 (bit_ne h (by decide))), (fun h => c3 (bit_ne h (by decide))), (fun h h2 => c4 (bit_ne h (by decide)) (bit_ne h2 (by decide))), (fun h => c5 (bit_ne h (by decide))), (fun h => c6 (bit_ne h (by decide))), (fun h => c7 (bit_ne h (by decide))), (fun h => c8 (bit_ne h (by decide))), (fun h h2 => c9 (bit_ne h (by decide)) (bit_ne h2 (by decide))), (fun h => c10 (bit_ne h (by decide))), (fun h h2 => c11 (bit_ne h (by decide)) (bit_ne h2 (by decide))), (fun h => c12 (bit_ne h (by decide))), (fun h h2 => c13 (bit_ne h (by decide)) (bit_ne h2 (by decide))), (fun h h2 => c14 (bit_ne h (by decide)) (bit_ne h2 (by decide))), (fun h h2 => c15 (bit_ne h (by decide)) (bit_ne h2 (by decide))), (fun h => c16 (bit_ne h (by decide))), (fun h => c17 (bit_ne h (by decide))), (fun h h2 h3 h4 => d4_9 (bit_ne h (by decide)) (bit_ne h2 (by decide)) (bit_ne h3 (by decide)) (bit_ne h4 (by decide))), (fun h h2 h3 h4 => d4_11 (bit_ne h (by decide)) (bit_ne h2 (by decide)) (bit_ne h3 (by decide)) (bit_ne h4 (by decide))), (fun h h2 h3 h4 => d13_9 (bit_ne h (by decide)) (bit_ne h2 (by decide)) (bit_ne h3 (by decide)) (bit_ne h4 (by decide)))⟩
            · obtain rfl := Option.some.inj ho
              have hsz : 2 < listed.size := by rw [hls]; decide
              have hbw := hbW
              refine inv_val (w' := w) (.agg (v8 seed)) rfl rfl (exec_load_row 24 (.tmp 8) rfl (w0.heap.size + 1) rfl 24 _ _ (x1.below hbW (by omega)) Tryd.underlying24 rfl (id_info hs)) ?_
              exact ⟨s106, s107, (.agg (v8 seed)), s109, s110, s111, s112, s113, s114, s115, s116, s117, s118, s119, s120, s121, s122, s123, rfl, hbw, (fun h => c0 (bit_ne h (by decide))), (fun h => c1 (bit_ne h (by decide))), (fun _ => rfl), (fun h => c3 (bit_ne h (by decide))), (fun h h2 => c4 (bit_ne h (by decide)) (bit_ne h2 (by decide))), (fun h => c5 (bit_ne h (by decide))), (fun h => c6 (bit_ne h (by decide))), (fun h => c7 (bit_ne h (by decide))), (fun h => c8 (bit_ne h (by decide))), (fun h h2 => c9 (bit_ne h (by decide)) (bit_ne h2 (by decide))), (fun h => c10 (bit_ne h (by decide))), (fun h h2 => c11 (bit_ne h (by decide)) (bit_ne h2 (by decide))), (fun h => c12 (bit_ne h (by decide))), (fun h h2 => c13 (bit_ne h (by decide)) (bit_ne h2 (by decide))), (fun h h2 => c14 (bit_ne h (by decide)) (bit_ne h2 (by decide))), (fun h h2 => c15 (bit_ne h (by decide)) (bit_ne h2 (by decide))), (fun h => c16 (bit_ne h (by decide))), (fun h => c17 (bit_ne h (by decide))), (fun h h2 h3 h4 => d4_9 (bit_ne h (by decide)) (bit_ne h2 (by decide)) (bit_ne h3 (by decide)) (bit_ne h4 (by decide))), (fun h h2 h3 h4 => d4_11 (bit_ne h (by decide)) (bit_ne h2 (by decide)) (bit_ne h3 (by decide)) (bit_ne h4 (by decide))), (fun h h2 h3 h4 => d13_9 (bit_ne h (by decide)) (bit_ne h2 (by decide)) (bit_ne h3 (by decide)) (bit_ne h4 (by decide)))⟩
            · obtain rfl := Option.some.inj ho
              have hsz : 3 < listed.size := by rw [hls]; decide
              have hbw := hbW
              refine inv_val (w' := w) (.slice mp ml mc) rfl rfl rfl ?_
              exact ⟨s106, s107, s108, (.slice mp ml mc), s110, s111, s112, s113, s114, s115, s116, s117, s118, s119, s120, s121, s122, s123, rfl, hbw, (fun h => c0 (bit_ne h (by decide))), (fun h => c1 (bit_ne h (by decide))), (fun h => c2 (bit_ne h (by decide))), (fun _ => rfl), (fun h h2 => c4 (bit_ne h (by decide)) (bit_ne h2 (by decide))), (fun h => c5 (bit_ne h (by decide))), (fun h => c6 (bit_ne h (by decide))), (fun h => c7 (bit_ne h (by decide))), (fun h => c8 (bit_ne h (by decide))), (fun h h2 => c9 (bit_ne h (by decide)) (bit_ne h2 (by decide))), (fun h => c10 (bit_ne h (by decide))), (fun h h2 => c11 (bit_ne h (by decide)) (bit_ne h2 (by decide))), (fun h => c12 (bit_ne h (by decide))), (fun h h2 => c13 (bit_ne h (by decide)) (bit_ne h2 (by decide))), (fun h h2 => c14 (bit_ne h (by decide)) (bit_ne h2 (by decide))), (fun h h2 => c15 (bit_ne h (by decide)) (bit_ne h2 (by decide))), (fun h => c16 (bit_ne h (by decide))), (fun h => c17 (bit_ne h (by decide))), (fun h h2 h3 h4 => d4_9 (bit_ne h (by decide)) (bit_ne h2 (by decide)) (bit_ne h3 (by decide)) (bit_ne h4 (by decide))), (fun h h2 h3 h4 => d4_11 (bit_ne h (by decide)) (bit_ne h2 (by decide)) (bit_ne h3 (by decide)) (bit_ne h4 (by decide))), (fun h h2 h3 h4 => d13_9 (bit_ne h (by decide)) (bit_ne h2 (by decide)) (bit_ne h3 (by decide)) (bit_ne h4 (by decide)))⟩
            · obtain rfl := Option.some.inj ho
              have hsz : 4 < listed.size := by rw [hls]; decide
              have hdep0 : listed.getD 0 false = true := hall ⟨0, .data⟩ (by simp) (by rfl)
              obtain rfl := c0 hdep0
              have hdep1 : listed.getD 1 false = true := hall ⟨1, .data⟩ (by simp) (by rfl)
              obtain rfl := c1 hdep1
              have hdep2 : listed.getD 2 false = true := hall ⟨2, .data⟩ (by simp) (by rfl)
              obtain rfl := c2 hdep2
              have hdep3 : listed.getD 3 false = true := hall ⟨3, .data⟩ (by simp) (by rfl)
              obtain rfl := c3 hdep3
              refine inv_call 19 #[.agg (v8 nm), .int .i64 q, .agg (v8 seed), .slice mp ml mc] _ rfl rfl (by kernel_rfl) (hRS1 w (hmb.below (xb.trans (hbW.mono (by omega))))) ?_
              rintro e w' ⟨sp, cap, rfl, ow, hb⟩
              have hbw : Below B wD w' := hbW.trans (hb.mono (hsB hbW))
              refine ⟨_, rfl, ?_⟩
              exact ⟨(.agg (v8 nm)), (.int .i64 q), (.agg (v8 seed)), (.slice mp ml mc), (.slice sp 4292 cap), s111, s112, s113, s114, s115, s116, s117, s118, s119, s120, s121, s122, s123, rfl, hbw, (fun h => c0 (bit_ne h (by decide))), (fun h => c1 (bit_ne h (by decide))), (fun h => c2 (bit_ne h (by decide))), (fun h => c3 (bit_ne h (by decide))), (fun _ _ => ⟨sp, cap, rfl, ow.mono (hsB hbW)⟩), (fun h => c5 (bit_ne h (by decide))), (fun h => c6 (bit_ne h (by decide))), (fun h => c7 (bit_ne h (by decide))), (fun h => c8 (bit_ne h (by decide))), (fun h h2 => (c9 (bit_ne h (by decide)) (bit_ne h2 (by decide))).below hb), (fun h => c10 (bit_ne h (by decide))), (fun h h2 => (c11 (bit_ne h (by decide)) (bit_ne h2 (by decide))).below hb), (fun h => c12 (bit_ne h (by decide))), (fun h h2 => (c13 (bit_ne h (by decide)) (bit_ne h2 (by decide))).below hb), (fun h h2 => (c14 (bit_ne h (by decide)) (bit_ne h2 (by decide))).below hb), (fun h h2 => (c15 (bit_ne h (by decide)) (bit_ne h2 (by decide))).below hb), (fun h => c16 (bit_ne h (by decide))), (fun h => c17 (bit_ne h (by decide))), (fun _ _ h3 h4 => own_new ow (by rw [hSG1]; decide) (c9 (bit_ne h3 (by decide)) (bit_ne h4 (by decide)))), (fun _ _ h3 _ => absurd (hcl 11 _ rfl (bit_ne h3 (by decide)) ⟨4, .chain⟩ (by simp) rfl) (by rw [hi]; decide)), (fun h h2 h3 h4 => d13_9 (bit_ne h (by decide)) (bit_ne h2 (by decide)) (bit_ne h3 (by decide)) (bit_ne h4 (by decide)))⟩
            · obtain rfl := Option.some.inj ho
              have hsz : 5 < listed.size := by rw [hls]; decide
              have hdep4 : listed.getD 4 false = true := hall ⟨4, .data⟩ (by simp) (by rfl)
              obtain ⟨sp4, cap4, rfl, o4⟩ := c4 hdep4 hi
              have hbw := hbW
              refine inv_val (w' := w) (.string (strOfNums SG)) rfl rfl (exec_convert8 (.tmp 110) rfl _ _ _ SG rfl hSG1 (by omega) o4.bytes) ?_
              exact ⟨s106, s107, s108, s109, (.slice sp4 4292 cap4), (.string (strOfNums SG)), s112, s113, s114, s115, s116, s117, s118, s119, s120, s121, s122, s123, rfl, hbw, (fun h => c0 (bit_ne h (by decide))), (fun h => c1 (bit_ne h (by decide))), (fun h => c2 (bit_ne h (by decide))), (fun h => c3 (bit_ne h (by decide))), (fun _ h2 => absurd (bit_on hsz) (by rw [h2]; decide)), (fun _ => rfl), (fun h => c6 (bit_ne h (by decide))), (fun h => c7 (bit_ne h (by decide))), (fun h => c8 (bit_ne h (by decide))), (fun h h2 => c9 (bit_ne h (by decide)) (bit_ne h2 (by decide))), (fun h => c10 (bit_ne h (by decide))), (fun h h2 => c11 (bit_ne h (by decide)) (bit_ne h2 (by decide))), (fun h => c12 (bit_ne h (by decide))), (fun h h2 => c13 (bit_ne h (by decide)) (bit_ne h2 (by decide))), (fun h h2 => c14 (bit_ne h (by decide)) (bit_ne h2 (by decide))), (fun h h2 => c15 (bit_ne h (by decide)) (bit_ne h2 (by decide))), (fun h => c16 (bit_ne h (by decide))), (fun h => c17 (bit_ne h (by decide))), (fun _ h2 _ _ => absurd (bit_on hsz) (by rw [h2]; decide)), (fun _ h2 _ _ => absurd (bit_on hsz) (by rw [h2]; decide)), (fun h h2 h3 h4 => d13_9 (bit_ne h (by decide)) (bit_ne h2 (by decide)) (bit_ne h3 (by decide)) (bit_ne h4 (by decide)))⟩
            · obtain rfl := Option.some.inj ho
              have hsz : 6 < listed.size := by rw [hls]; decide
              have hbw := hbW
              refine inv_val (w' := w) (.agg (v8 nm)) rfl rfl (exec_load_row 22 (.tmp 6) rfl w0.heap.size rfl 22 _ _ (x0.below hbW (by omega)) Tryd.underlying22 rfl (name_info hn)) ?_
              exact ⟨s106, s107, s108, s109, s110, s111, (.agg (v8 nm)), s113, s114, s115, s116, s117, s118, s119, s120, s121, s122, s123, rfl, hbw, (fun h => c0 (bit_ne h (by decide))), (fun h => c1 (bit_ne h (by decide))), (fun h => c2 (bit_ne h (by decide))), (fun h => c3 (bit_ne h (by decide))), (fun h h2 => c4 (bit_ne h (by decide)) (bit_ne h2 (by decide))), (fun h => c5 (bit_ne h (by decide))), (fun _ => rfl), (fun h => c7 (bit_ne h (by decide))), (fun h => c8 (bit_ne h (by decide))), (fun h h2 => c9 (bit_ne h (by decide)) (bit_ne h2 (by decide))), (fun h => c10 (bit_ne h (by decide))), (fun h h2 => c11 (bit_ne h (by decide)) (bit_ne h2 (by decide))), (fun h => c12 (bit_ne h (by decide))), (fun h h2 => c13 (bit_ne h (by decide)) (bit_ne h2 (by decide))), (fun h h2 => c14 (bit_ne h (by decide)) (bit_ne h2 (by decide))), (fun h h2 => c15 (bit_ne h (by decide)) (bit_ne h2 (by decide))), (fun h => c16 (bit_ne h (by decide))), (fun h => c17 (bit_ne h (by decide))), (fun h h2 h3 h4 => d4_9 (bit_ne h (by decide)) (bit_ne h2 (by decide)) (bit_ne h3 (by decide)) (bit_ne h4 (by decide))), (fun h h2 h3 h4 => d4_11 (bit_ne h (by decide)) (bit_ne h2 (by decide)) (bit_ne h3 (by decide)) (bit_ne h4 (by decide))), (fun h h2 h3 h4 => d13_9 (bit_ne h (by decide)) (bit_ne h2 (by decide)) (bit_ne h3 (by decide)) (bit_ne h4 (by decide)))⟩
            · obtain rfl := Option.some.inj ho
              have hsz : 7 < listed.size := by rw [hls]; decide
              have hbw := hbW
              refine inv_val (w' := w) (.int .i64 q) rfl rfl rfl ?_
              exact ⟨s106, s107, s108, s109, s110, s111, s112, (.int .i64 q), s114, s115, s116, s117, s118, s119, s120, s121, s122, s123, rfl, hbw, (fun h => c0 (bit_ne h (by decide))), (fun h => c1 (bit_ne h (by decide))), (fun h => c2 (bit_ne h (by decide))), (fun h => c3 (bit_ne h (by decide))), (fun h h2 => c4 (bit_ne h (by decide)) (bit_ne h2 (by decide))), (fun h => c5 (bit_ne h (by decide))), (fun h => c6 (bit_ne h (by decide))), (fun _ => rfl), (fun h => c8 (bit_ne h (by decide))), (fun h h2 => c9 (bit_ne h (by decide)) (bit_ne h2 (by decide))), (fun h => c10 (bit_ne h (by decide))), (fun h h2 => c11 (bit_ne h (by decide)) (bit_ne h2 (by decide))), (fun h => c12 (bit_ne h (by decide))), (fun h h2 => c13 (bit_ne h (by decide)) (bit_ne h2 (by decide))), (fun h h2 => c14 (bit_ne h (by decide)) (bit_ne h2 (by decide))), (fun h h2 => c15 (bit_ne h (by decide)) (bit_ne h2 (by decide))), (fun h => c16 (bit_ne h (by decide))), (fun h => c17 (bit_ne h (by decide))), (fun h h2 h3 h4 => d4_9 (bit_ne h (by decide)) (bit_ne h2 (by decide)) (bit_ne h3 (by decide)) (bit_ne h4 (by decide))), (fun h h2 h3 h4 => d4_11 (bit_ne h (by decide)) (bit_ne h2 (by decide)) (bit_ne h3 (by decide)) (bit_ne h4 (by decide))), (fun h h2 h3 h4 => d13_9 (bit_ne h (by decide)) (bit_ne h2 (by decide)) (bit_ne h3 (by decide)) (bit_ne h4 (by decide)))⟩
            · obtain rfl := Option.some.inj ho
              have hsz : 8 < listed.size := by rw [hls]; decide
              have hbw := hbW
              refine inv_val (w' := w) (.agg (v8 seed)) rfl rfl (exec_load_row 24 (.tmp 8) rfl (w0.heap.size + 1) rfl 24 _ _ (x1.below hbW (by omega)) Tryd.underlying24 rfl (id_info hs)) ?_
              exact ⟨s106, s107, s108, s109, s110, s111, s112, s113, (.agg (v8 seed)), s115, s116, s117, s118, s119, s120, s121, s122, s123, rfl, hbw, (fun h => c0 (bit_ne h (by decide))), (fun h => c1 (bit_ne h (by decide))), (fun h => c2 (bit_ne h (by decide))), (fun h => c3 (bit_ne h (by decide))), (fun h h2 => c4 (bit_ne h (by decide)) (bit_ne h2 (by decide))), (fun h => c5 (bit_ne h (by decide))), (fun h => c6 (bit_ne h (by decide))), (fun h => c7 (bit_ne h (by decide))), (fun _ => rfl), (fun h h2 => c9 (bit_ne h (by decide)) (bit_ne h2 (by decide))), (fun h => c10 (bit_ne h (by decide))), (fun h h2 => c11 (bit_ne h (by decide)) (bit_ne h2 (by decide))), (fun h => c12 (bit_ne h (by decide))), (fun h h2 => c13 (bit_ne h (by decide)) (bit_ne h2 (by decide))), (fun h h2 => c14 (bit_ne h (by decide)) (bit_ne h2 (by decide))), (fun h h2 => c15 (bit_ne h (by decide)) (bit_ne h2 (by decide))), (fun h => c16 (bit_ne h (by decide))), (fun h => c17 (bit_ne h (by decide))), (fun h h2 h3 h4 => d4_9 (bit_ne h (by decide)) (bit_ne h2 (by decide)) (bit_ne h3 (by decide)) (bit_ne h4 (by decide))), (fun h h2 h3 h4 => d4_11 (bit_ne h (by decide)) (bit_ne h2 (by decide)) (bit_ne h3 (by decide)) (bit_ne h4 (by decide))), (fun h h2 h3 h4 => d13_9 (bit_ne h (by decide)) (bit_ne h2 (by decide)) (bit_ne h3 (by decide)) (bit_ne h4 (by decide)))⟩
            · obtain rfl := Option.some.inj ho
              have hsz : 9 < listed.size := by rw [hls]; decide
              have hbw : Below B wD (w.alloc (.cells (v8 []) 5)) := hbW.alloc (hsB hbW) _
              refine inv_val (.slice (some ⟨w.heap.size, 0, none⟩) 0 0) (w' := w.alloc (.cells (v8 []) 5)) rfl rfl (by kernel_rfl) ?_
              have me_d4_9 := fun (h : OwnS w B s110 4292 SG) => own_lit' (m := 0) h
              have me_d13_9 := fun (h : LitS w B s119 1 [by_]) => h.ne_new (m := 0)
              exact ⟨s106, s107, s108, s109, s110, s111, s112, s113, s114, (.slice (some ⟨w.heap.size, 0, none⟩) 0 0), s116, s117, s118, s119, s120, s121, s122, s123, rfl, hbw, (fun h => c0 (bit_ne h (by decide))), (fun h => c1 (bit_ne h (by decide))), (fun h => c2 (bit_ne h (by decide))), (fun h => c3 (bit_ne h (by decide))), (fun h h2 => (c4 (bit_ne h (by decide)) (bit_ne h2 (by decide))).alloc _), (fun h => c5 (bit_ne h (by decide))), (fun h => c6 (bit_ne h (by decide))), (fun h => c7 (bit_ne h (by decide))), (fun h => c8 (bit_ne h (by decide))), (fun _ _ => OwnS.new w B (hsB hbW)), (fun h => c10 (bit_ne h (by decide))), (fun h h2 => (c11 (bit_ne h (by decide)) (bit_ne h2 (by decide))).alloc _), (fun h => c12 (bit_ne h (by decide))), (fun h h2 => (c13 (bit_ne h (by decide)) (bit_ne h2 (by decide))).alloc _), (fun h h2 => (c14 (bit_ne h (by decide)) (bit_ne h2 (by decide))).alloc _), (fun h h2 => (c15 (bit_ne h (by decide)) (bit_ne h2 (by decide))).alloc _), (fun h => c16 (bit_ne h (by decide))), (fun h => c17 (bit_ne h (by decide))), (fun h h2 _ _ => me_d4_9 (c4 (bit_ne h (by decide)) (bit_ne h2 (by decide)))), (fun h h2 h3 h4 => d4_11 (bit_ne h (by decide)) (bit_ne h2 (by decide)) (bit_ne h3 (by decide)) (bit_ne h4 (by decide))), (fun h h2 _ _ => me_d13_9 (c13 (bit_ne h (by decide)) (bit_ne h2 (by decide))))⟩
            · obtain rfl := Option.some.inj ho
              have hsz : 10 < listed.size := by rw [hls]; decide
              have hbw := hbW
              refine inv_val (w' := w) (.slice mp ml mc) rfl rfl rfl ?_
              exact ⟨s106, s107, s108, s109, s110, s111, s112, s113, s114, s115, (.slice mp ml mc), s117, s118, s119, s120, s121, s122, s123, rfl, hbw, (fun h => c0 (bit_ne h (by decide))), (fun h => c1 (bit_ne h (by decide))), (fun h => c2 (bit_ne h (by decide))), (fun h => c3 (bit_ne h (by decide))), (fun h h2 => c4 (bit_ne h (by decide)) (bit_ne h2 (by decide))), (fun h => c5 (bit_ne h (by decide))), (fun h => c6 (bit_ne h (by decide))), (fun h => c7 (bit_ne h (by decide))), (fun h => c8 (bit_ne h (by decide))), (fun h h2 => c9 (bit_ne h (by decide)) (bit_ne h2 (by decide))), (fun _ => rfl), (fun h h2 => c11 (bit_ne h (by decide)) (bit_ne h2 (by decide))), (fun h => c12 (bit_ne h (by decide))), (fun h h2 => c13 (bit_ne h (by decide)) (bit_ne h2 (by decide))), (fun h h2 => c14 (bit_ne h (by decide)) (bit_ne h2 (by decide))), (fun h h2 => c15 (bit_ne h (by decide)) (bit_ne h2 (by decide))), (fun h => c16 (bit_ne h (by decide))), (fun h => c17 (bit_ne h (by decide))), (fun h h2 h3 h4 => d4_9 (bit_ne h (by decide)) (bit_ne h2 (by decide)) (bit_ne h3 (by decide)) (bit_ne h4 (by decide))), (fun h h2 h3 h4 => d4_11 (bit_ne h (by decide)) (bit_ne h2 (by decide)) (bit_ne h3 (by decide)) (bit_ne h4 (by decide))), (fun h h2 h3 h4 => d13_9 (bit_ne h (by decide)) (bit_ne h2 (by decide)) (bit_ne h3 (by decide)) (bit_ne h4 (by decide)))⟩
            · obtain rfl := Option.some.inj ho
              have hsz : 11 < listed.size := by rw [hls]; decide
              have hdep9 : listed.getD 9 false = true := hall ⟨9, .data⟩ (by simp) (by rfl)
              obtain ⟨sp9, cap9, rfl, o9⟩ := c9 hdep9 hi
              have hdep10 : listed.getD 10 false = true := hall ⟨10, .data⟩ (by simp) (by rfl)
              obtain rfl := c10 hdep10
              refine inv_op rfl rfl (wp8o (.tmp 115) (.tmp 116) rfl B _ [] rfl o9 mp ml mc msg rfl hml hmn (hmb.below (xb.trans (hbW.mono (by omega)))) (by first | omega | (simp; omega) | simp) (hsB hbW) (own_blk o9) ?_)
              intro sp cap w' ow hb' hgg hor
              have hg := Grew.of hgg
              have hbw : Below B wD w' := hbW.trans hb'
              have hown := o9
              rw [List.nil_append, hml] at ow hor ⊢
              have me_d4_11 := fun (h : OwnS w B s110 4292 SG) (d : s110.ownBlock ≠ _) => own_or d h hor
              exact ⟨s106, s107, s108, s109, s110, s111, s112, s113, s114, (.slice sp9 0 cap9), (.slice mp ml mc), (.slice sp ml cap), s118, s119, s120, s121, s122, s123, rfl, hbw, (fun h => c0 (bit_ne h (by decide))), (fun h => c1 (bit_ne h (by decide))), (fun h => c2 (bit_ne h (by decide))), (fun h => c3 (bit_ne h (by decide))), (fun h h2 => (c4 (bit_ne h (by decide)) (bit_ne h2 (by decide))).grew hg (d4_9 (bit_ne h (by decide)) (bit_ne h2 (by decide)) hdep9 hi)), (fun h => c5 (bit_ne h (by decide))), (fun h => c6 (bit_ne h (by decide))), (fun h => c7 (bit_ne h (by decide))), (fun h => c8 (bit_ne h (by decide))), (fun _ h2 => absurd (bit_on hsz) (by rw [h2]; decide)), (fun h => c10 (bit_ne h (by decide))), (fun _ _ => ⟨sp, cap, rfl, ow⟩), (fun h => c12 (bit_ne h (by decide))), (fun h h2 => (c13 (bit_ne h (by decide)) (bit_ne h2 (by decide))).grew hg (d13_9 (bit_ne h (by decide)) (bit_ne h2 (by decide)) hdep9 hi)), (fun h _ => absurd (hcl 14 _ rfl (bit_ne h (by decide)) ⟨11, .data⟩ (by simp) rfl) (by rw [hi]; decide)), (fun h _ => absurd (hcl 14 _ rfl (hcl 15 _ rfl (bit_ne h (by decide)) ⟨14, .data⟩ (by simp) rfl) ⟨11, .data⟩ (by simp) rfl) (by rw [hi]; decide)), (fun h => c16 (bit_ne h (by decide))), (fun h => c17 (bit_ne h (by decide))), (fun _ _ _ h4 => absurd (bit_on hsz) (by rw [h4]; decide)), (fun h h2 _ _ => me_d4_11 (c4 (bit_ne h (by decide)) (bit_ne h2 (by decide))) (d4_9 (bit_ne h (by decide)) (bit_ne h2 (by decide)) hdep9 hi)), (fun _ _ _ h4 => absurd (bit_on hsz) (by rw [h4]; decide))⟩
            · obtain rfl := Option.some.inj ho
              have hsz : 12 < listed.size := by rw [hls]; decide
              have hbw := hbW
              refine inv_val (w' := w) (.int .u8 by_) rfl rfl rfl ?_
              exact ⟨s106, s107, s108, s109, s110, s111, s112, s113, s114, s115, s116, s117, (.int .u8 by_), s119, s120, s121, s122, s123, rfl, hbw, (fun h => c0 (bit_ne h (by decide))), (fun h => c1 (bit_ne h (by decide))), (fun h => c2 (bit_ne h (by decide))), (fun h => c3 (bit_ne h (by decide))), (fun h h2 => c4 (bit_ne h (by decide)) (bit_ne h2 (by decide))), (fun h => c5 (bit_ne h (by decide))), (fun h => c6 (bit_ne h (by decide))), (fun h => c7 (bit_ne h (by decide))), (fun h => c8 (bit_ne h (by decide))), (fun h h2 => c9 (bit_ne h (by decide)) (bit_ne h2 (by decide))), (fun h => c10 (bit_ne h (by decide))), (fun h h2 => c11 (bit_ne h (by decide)) (bit_ne h2 (by decide))), (fun _ => rfl), (fun h h2 => c13 (bit_ne h (by decide)) (bit_ne h2 (by decide))), (fun h h2 => c14 (bit_ne h (by decide)) (bit_ne h2 (by decide))), (fun h h2 => c15 (bit_ne h (by decide)) (bit_ne h2 (by decide))), (fun h => c16 (bit_ne h (by decide))), (fun h => c17 (bit_ne h (by decide))), (fun h h2 h3 h4 => d4_9 (bit_ne h (by decide)) (bit_ne h2 (by decide)) (bit_ne h3 (by decide)) (bit_ne h4 (by decide))), (fun h h2 h3 h4 => d4_11 (bit_ne h (by decide)) (bit_ne h2 (by decide)) (bit_ne h3 (by decide)) (bit_ne h4 (by decide))), (fun h h2 h3 h4 => d13_9 (bit_ne h (by decide)) (bit_ne h2 (by decide)) (bit_ne h3 (by decide)) (bit_ne h4 (by decide)))⟩
            · obtain rfl := Option.some.inj ho
              have hsz : 13 < listed.size := by rw [hls]; decide
              have hdep12 : listed.getD 12 false = true := hall ⟨12, .data⟩ (by simp) (by rfl)
              obtain rfl := c12 hdep12
              have hbw : Below B wD (w.alloc (.cells (v8 [by_]) 5)) := hbW.alloc (hsB hbW) _
              refine inv_val (.slice (some ⟨w.heap.size, 0, none⟩) 1 1) (w' := w.alloc (.cells (v8 [by_]) 5)) rfl rfl (by kernel_rfl) ?_
              exact ⟨s106, s107, s108, s109, s110, s111, s112, s113, s114, s115, s116, s117, (.int .u8 by_), (.slice (some ⟨w.heap.size, 0, none⟩) 1 1), s120, s121, s122, s123, rfl, hbw, (fun h => c0 (bit_ne h (by decide))), (fun h => c1 (bit_ne h (by decide))), (fun h => c2 (bit_ne h (by decide))), (fun h => c3 (bit_ne h (by decide))), (fun h h2 => (c4 (bit_ne h (by decide)) (bit_ne h2 (by decide))).alloc _), (fun h => c5 (bit_ne h (by decide))), (fun h => c6 (bit_ne h (by decide))), (fun h => c7 (bit_ne h (by decide))), (fun h => c8 (bit_ne h (by decide))), (fun h h2 => (c9 (bit_ne h (by decide)) (bit_ne h2 (by decide))).alloc _), (fun h => c10 (bit_ne h (by decide))), (fun h h2 => (c11 (bit_ne h (by decide)) (bit_ne h2 (by decide))).alloc _), (fun h => c12 (bit_ne h (by decide))), (fun _ _ => LitS.new w B (hsB hbW) 1 [by_] (by rfl)), (fun h h2 => (c14 (bit_ne h (by decide)) (bit_ne h2 (by decide))).alloc _), (fun h h2 => (c15 (bit_ne h (by decide)) (bit_ne h2 (by decide))).alloc _), (fun h => c16 (bit_ne h (by decide))), (fun h => c17 (bit_ne h (by decide))), (fun h h2 h3 h4 => d4_9 (bit_ne h (by decide)) (bit_ne h2 (by decide)) (bit_ne h3 (by decide)) (bit_ne h4 (by decide))), (fun h h2 h3 h4 => d4_11 (bit_ne h (by decide)) (bit_ne h2 (by decide)) (bit_ne h3 (by decide)) (bit_ne h4 (by decide))), (fun _ _ h3 h4 => litNew (c9 (bit_ne h3 (by decide)) (bit_ne h4 (by decide))))⟩
            · obtain rfl := Option.some.inj ho
              have hsz : 14 < listed.size := by rw [hls]; decide
              have hdep11 : listed.getD 11 false = true := hall ⟨11, .data⟩ (by simp) (by rfl)
              obtain ⟨sp11, cap11, rfl, o11⟩ := c11 hdep11 hi
              have hdep13 : listed.getD 13 false = true := hall ⟨13, .data⟩ (by simp) (by rfl)
              obtain ⟨b13, rfl, r13, hb13⟩ := c13 hdep13 hi
              refine inv_op rfl rfl (wp8g (.tmp 117) (.tmp 119) 28 5 rfl B Tryd.underlying28 info5 _ msg rfl o11 (some ⟨b13, 0, none⟩) 1 1 [by_] rfl rfl (fun h => by cases h) r13.bytes (by first | omega | (simp; omega) | simp) (hsB hbW) ?_)
              intro sp cap w' ow hb' hgg
              have hg := Grew.of hgg
              have hbw : Below B wD w' := hbW.trans hb'
              have hown := o11
              rw [hMB] at ow ⊢
              exact ⟨s106, s107, s108, s109, s110, s111, s112, s113, s114, s115, s116, (.slice sp11 ml cap11), s118, (.slice (some ⟨b13, 0, none⟩) 1 1), (.slice sp (ml + 1) cap), s121, s122, s123, rfl, hbw, (fun h => c0 (bit_ne h (by decide))), (fun h => c1 (bit_ne h (by decide))), (fun h => c2 (bit_ne h (by decide))), (fun h => c3 (bit_ne h (by decide))), (fun h h2 => (c4 (bit_ne h (by decide)) (bit_ne h2 (by decide))).grew hg (d4_11 (bit_ne h (by decide)) (bit_ne h2 (by decide)) hdep11 hi)), (fun h => c5 (bit_ne h (by decide))), (fun h => c6 (bit_ne h (by decide))), (fun h => c7 (bit_ne h (by decide))), (fun h => c8 (bit_ne h (by decide))), (fun _ h2 => absurd hdep11 (by rw [bit_ne h2 (by decide)]; decide)), (fun h => c10 (bit_ne h (by decide))), (fun _ h2 => absurd (bit_on hsz) (by rw [h2]; decide)), (fun h => c12 (bit_ne h (by decide))), (fun _ h2 => absurd (bit_on hsz) (by rw [h2]; decide)), (fun _ _ => ⟨sp, cap, rfl, ow⟩), (fun h _ => absurd (hcl 15 _ rfl (bit_ne h (by decide)) ⟨14, .data⟩ (by simp) rfl) (by rw [hi]; decide)), (fun h => c16 (bit_ne h (by decide))), (fun h => c17 (bit_ne h (by decide))), (fun h h2 h3 h4 => d4_9 (bit_ne h (by decide)) (bit_ne h2 (by decide)) (bit_ne h3 (by decide)) (bit_ne h4 (by decide))), (fun _ _ _ h4 => absurd (bit_on hsz) (by rw [h4]; decide)), (fun _ h2 _ _ => absurd (bit_on hsz) (by rw [h2]; decide))⟩
            · obtain rfl := Option.some.inj ho
              have hsz : 15 < listed.size := by rw [hls]; decide
              have hdep6 : listed.getD 6 false = true := hall ⟨6, .data⟩ (by simp) (by rfl)
              obtain rfl := c6 hdep6
              have hdep7 : listed.getD 7 false = true := hall ⟨7, .data⟩ (by simp) (by rfl)
              obtain rfl := c7 hdep7
              have hdep8 : listed.getD 8 false = true := hall ⟨8, .data⟩ (by simp) (by rfl)
              obtain rfl := c8 hdep8
              have hdep14 : listed.getD 14 false = true := hall ⟨14, .data⟩ (by simp) (by rfl)
              obtain ⟨sp14, cap14, rfl, o14⟩ := c14 hdep14 hi
              refine inv_call 19 #[.agg (v8 nm), .int .i64 q, .agg (v8 seed), .slice sp14 (ml + 1) cap14] _ rfl rfl (by kernel_rfl) (hRS2 sp14 cap14 w o14.bytes (own_nil o14 (by rw [hMB]; omega))) ?_
              rintro e w' ⟨sp, cap, rfl, ow, hb⟩
              have hbw : Below B wD w' := hbW.trans (hb.mono (hsB hbW))
              refine ⟨_, rfl, ?_⟩
              exact ⟨s106, s107, s108, s109, s110, s111, (.agg (v8 nm)), (.int .i64 q), (.agg (v8 seed)), s115, s116, s117, s118, s119, (.slice sp14 (ml + 1) cap14), (.slice sp 4292 cap), s122, s123, rfl, hbw, (fun h => c0 (bit_ne h (by decide))), (fun h => c1 (bit_ne h (by decide))), (fun h => c2 (bit_ne h (by decide))), (fun h => c3 (bit_ne h (by decide))), (fun h h2 => (c4 (bit_ne h (by decide)) (bit_ne h2 (by decide))).below hb), (fun h => c5 (bit_ne h (by decide))), (fun h => c6 (bit_ne h (by decide))), (fun h => c7 (bit_ne h (by decide))), (fun h => c8 (bit_ne h (by decide))), (fun h h2 => (c9 (bit_ne h (by decide)) (bit_ne h2 (by decide))).below hb), (fun h => c10 (bit_ne h (by decide))), (fun h h2 => (c11 (bit_ne h (by decide)) (bit_ne h2 (by decide))).below hb), (fun h => c12 (bit_ne h (by decide))), (fun h h2 => (c13 (bit_ne h (by decide)) (bit_ne h2 (by decide))).below hb), (fun _ h2 => absurd (bit_on hsz) (by rw [h2]; decide)), (fun _ _ => ⟨sp, cap, rfl, ow.mono (hsB hbW)⟩), (fun h => c16 (bit_ne h (by decide))), (fun h => c17 (bit_ne h (by decide))), (fun h h2 h3 h4 => d4_9 (bit_ne h (by decide)) (bit_ne h2 (by decide)) (bit_ne h3 (by decide)) (bit_ne h4 (by decide))), (fun h h2 h3 h4 => d4_11 (bit_ne h (by decide)) (bit_ne h2 (by decide)) (bit_ne h3 (by decide)) (bit_ne h4 (by decide))), (fun h h2 h3 h4 => d13_9 (bit_ne h (by decide)) (bit_ne h2 (by decide)) (bit_ne h3 (by decide)) (bit_ne h4 (by decide)))⟩
            · obtain rfl := Option.some.inj ho
              have hsz : 16 < listed.size := by rw [hls]; decide
              have hdep15 : listed.getD 15 false = true := hall ⟨15, .data⟩ (by simp) (by rfl)
              obtain ⟨sp15, cap15, rfl, o15⟩ := c15 hdep15 hi
              have hbw := hbW
              refine inv_val (w' := w) (.string (strOfNums SG2)) rfl rfl (exec_convert8 (.tmp 121) rfl _ _ _ SG2 rfl hSG2 (by omega) o15.bytes) ?_
              exact ⟨s106, s107, s108, s109, s110, s111, s112, s113, s114, s115, s116, s117, s118, s119, s120, (.slice sp15 4292 cap15), (.string (strOfNums SG2)), s123, rfl, hbw, (fun h => c0 (bit_ne h (by decide))), (fun h => c1 (bit_ne h (by decide))), (fun h => c2 (bit_ne h (by decide))), (fun h => c3 (bit_ne h (by decide))), (fun h h2 => c4 (bit_ne h (by decide)) (bit_ne h2 (by decide))), (fun h => c5 (bit_ne h (by decide))), (fun h => c6 (bit_ne h (by decide))), (fun h => c7 (bit_ne h (by decide))), (fun h => c8 (bit_ne h (by decide))), (fun h h2 => c9 (bit_ne h (by decide)) (bit_ne h2 (by decide))), (fun h => c10 (bit_ne h (by decide))), (fun h h2 => c11 (bit_ne h (by decide)) (bit_ne h2 (by decide))), (fun h => c12 (bit_ne h (by decide))), (fun h h2 => c13 (bit_ne h (by decide)) (bit_ne h2 (by decide))), (fun h h2 => c14 (bit_ne h (by decide)) (bit_ne h2 (by decide))), (fun _ h2 => absurd (bit_on hsz) (by rw [h2]; decide)), (fun _ => rfl), (fun h => c17 (bit_ne h (by decide))), (fun h h2 h3 h4 => d4_9 (bit_ne h (by decide)) (bit_ne h2 (by decide)) (bit_ne h3 (by decide)) (bit_ne h4 (by decide))), (fun h h2 h3 h4 => d4_11 (bit_ne h (by decide)) (bit_ne h2 (by decide)) (bit_ne h3 (by decide)) (bit_ne h4 (by decide))), (fun h h2 h3 h4 => d13_9 (bit_ne h (by decide)) (bit_ne h2 (by decide)) (bit_ne h3 (by decide)) (bit_ne h4 (by decide)))⟩
            · obtain rfl := Option.some.inj ho
              have hsz : 17 < listed.size := by rw [hls]; decide
              have hdep5 : listed.getD 5 false = true := hall ⟨5, .data⟩ (by simp) (by rfl)
              obtain rfl := c5 hdep5
              have hdep16 : listed.getD 16 false = true := hall ⟨16, .data⟩ (by simp) (by rfl)
              obtain rfl := c16 hdep16
              have hbw := hbW
              refine inv_val (w' := w) (.bool ((strOfNums SG).toList == (strOfNums SG2).toList)) rfl rfl (exec_eql_strs 9 9 (.tmp 111) (.tmp 122) rfl _ _ rfl rfl) ?_
              exact ⟨s106, s107, s108, s109, s110, (.string (strOfNums SG)), s112, s113, s114, s115, s116, s117, s118, s119, s120, s121, (.string (strOfNums SG2)), (.bool ((strOfNums SG).toList == (strOfNums SG2).toList)), rfl, hbw, (fun h => c0 (bit_ne h (by decide))), (fun h => c1 (bit_ne h (by decide))), (fun h => c2 (bit_ne h (by decide))), (fun h => c3 (bit_ne h (by decide))), (fun h h2 => c4 (bit_ne h (by decide)) (bit_ne h2 (by decide))), (fun h => c5 (bit_ne h (by decide))), (fun h => c6 (bit_ne h (by decide))), (fun h => c7 (bit_ne h (by decide))), (fun h => c8 (bit_ne h (by decide))), (fun h h2 => c9 (bit_ne h (by decide)) (bit_ne h2 (by decide))), (fun h => c10 (bit_ne h (by decide))), (fun h h2 => c11 (bit_ne h (by decide)) (bit_ne h2 (by decide))), (fun h => c12 (bit_ne h (by decide))), (fun h h2 => c13 (bit_ne h (by decide)) (bit_ne h2 (by decide))), (fun h h2 => c14 (bit_ne h (by decide)) (bit_ne h2 (by decide))), (fun h h2 => c15 (bit_ne h (by decide)) (bit_ne h2 (by decide))), (fun h => c16 (bit_ne h (by decide))), (fun _ => rfl), (fun h h2 h3 h4 => d4_9 (bit_ne h (by decide)) (bit_ne h2 (by decide)) (bit_ne h3 (by decide)) (bit_ne h4 (by decide))), (fun h h2 h3 h4 => d4_11 (bit_ne h (by decide)) (bit_ne h2 (by decide)) (bit_ne h3 (by decide)) (bit_ne h4 (by decide))), (fun h h2 h3 h4 => d13_9 (bit_ne h (by decide)) (bit_ne h2 (by decide)) (bit_ne h3 (by decide)) (bit_ne h4 (by decide)))⟩
          · intro listed a w hall hJ
            obtain ⟨s106, s107, s108, s109, s110, s111, s112, s113, s114, s115, s116, s117, s118, s119, s120, s121, s122, s123, rfl, hbW, c0, c1, c2, c3, c4, c5, c6, c7, c8, c9, c10, c11, c12, c13, c14, c15, c16, c17, d4_9, d4_11, d13_9⟩ := hJ
            obtain rfl := c0 (hall 0 (by omega))
            obtain rfl := c1 (hall 1 (by omega))
            obtain rfl := c2 (hall 2 (by omega))
            obtain rfl := c3 (hall 3 (by omega))
            obtain rfl := c5 (hall 5 (by omega))
            obtain rfl := c6 (hall 6 (by omega))
            obtain rfl := c7 (hall 7 (by omega))
            obtain rfl := c8 (hall 8 (by omega))
            obtain rfl := c10 (hall 10 (by omega))
            obtain rfl := c12 (hall 12 (by omega))
            obtain rfl := c16 (hall 16 (by omega))
            obtain rfl := c17 (hall 17 (by omega))
            simp only [List.drop_succ_cons, List.drop_zero]
            have y0 := x0.below hbW (by omega)
            have y1 := x1.below hbW (by omega)
            have y3 := x3.below hbW (by omega)
            have y4 := x4.below hbW (by omega)
            have y5 := x5.below hbW (by omega)
            have y6 := x6.below hbW (by omega)
            have y9 := x9.below hbW (by omega)
            have y13 := z13.below hbW (by omega)
            have y14 := z14.below hbW (by omega)
            have y15 := z15.below hbW (by omega)
            have yb := xb.trans (hbW.mono (by omega))
            clear x0 x1 x3 x4 x5 x6 x9 z13 z14 z15 xb c0 c1 c2 c3 c4 c5 c6 c7 c8 c9 c10 c11 c12 c13 c14 c15 c16 c17 d4_9 d4_11 d13_9 hall hsB hbW hB listed hRS1 hRS2
            clear B
            generalize w = wE at *
            have hcv : ∀ (X : List Int) g wx, X.length = 4292 → Bytes wx (some ⟨g, 0, none⟩) X → (convert 28 9 (.slice (some ⟨g, 0, none⟩) 4292 4292)).run Tryd.prog wx = .ok (.string (strOfNums X)) wx := fun X g wx hX hb => by
              obtain ⟨b', o', e, hc⟩ := hb (by omega)
              have h := run_convert_bytes_arg (P := Tryd.prog) wx 28 5 Tryd.underlying28 Tryd.underlying5 b' o' 4292 4292 X hX (fun i hi => by rw [hc i (by omega)]; rfl) 9 Tryd.underlying9
              rw [e, h]
            have hcv1 := fun g wx => hcv SG g wx hSG1
            have hcv2 := fun g wx => hcv SG2 g wx hSG2
            clear hcv
            generalize strOfNums SG = s1 at *
            generalize strOfNums SG2 = s2 at *
            have heq1 : ∀ wx, (binOp .eql 24 (.agg (v8 P1)) (.agg (v8 PK))).run Tryd.prog wx = .ok (.bool (decide (P1 = PK))) wx := fun wx => run_eql_bytes wx 24 5 32 _ _ Tryd.underlying24 Tryd.underlying5 (by kernel_rfl) hK1 hPKl
            have heq2 : ∀ wx, (binOp .eql 24 (.agg (v8 P2)) (.agg (v8 PK))).run Tryd.prog wx = .ok (.bool (decide (P2 = PK))) wx := fun wx => run_eql_bytes wx 24 5 32 _ _ Tryd.underlying24 Tryd.underlying5 (by kernel_rfl) hK2 hPKl
            have heq3 : ∀ wx, (binOp .eql 24 (.agg (v8 P3)) (.agg (v8 PK))).run Tryd.prog wx = .ok (.bool (decide (P3 = PK))) wx := fun wx => run_eql_bytes wx 24 5 32 _ _ Tryd.underlying24 Tryd.underlying5 (by kernel_rfl) hK3 hPKl
            generalize decide (P1 = PK) = D1 at *
            generalize decide (P2 = PK) = D2 at *
            generalize decide (P3 = PK) = D3 at *
            go_upto_region 15 with fail
            refine region_tail 44 (by kernel_rfl) (by kernel_rfl) (by kernel_rfl) ?_
            apply Exists.intro
            refine ⟨fun ι _ W hb hc => ?_, fun wF hbF => ?_⟩
            · have t0 : ∀ i, Row (W i) w0.heap.size 22 (v8 nm) := fun i => y0.below (hb i) y0.lt
              have t1 : ∀ i, Row (W i) (w0.heap.size + 1) 24 (v8 seed) := fun i => y1.below (hb i) y1.lt
              have t3 : ∀ i, Row (W i) gk 24 (v8 PK) := fun i => y3.below (hb i) y3.lt
              have t4 : ∀ i, Row (W i) b4 22 (v8 nm2) := fun i => y4.below (hb i) y4.lt
              have t5 : ∀ i, Row (W i) b3 24 (v8 sd2) := fun i => y5.below (hb i) y5.lt
              have u13 : ∀ i, Row (W i) b13 24 (v8 P1) := fun i => y13.below (hb i) y13.lt
              have u14 : ∀ i, Row (W i) b14 24 (v8 P2) := fun i => y14.below (hb i) y14.lt
              have u15 : ∀ i, Row (W i) b15 24 (v8 P3) := fun i => y15.below (hb i) y15.lt
              have tL : ∀ i, Laid (W i) := fun i => hL.below (yb.trans ((hb i).mono yb.size))
              have f1 : ∀ i, (convert 28 9 (.slice (some ⟨g1, 0, none⟩) 4292 4292)).run Tryd.prog (W i) = .ok (.string s1) (W i) := fun i => hcv1 g1 _ ((y6.below (hb i) y6.lt).bytes)
              have f2 : ∀ i, (convert 28 9 (.slice (some ⟨b9, 0, none⟩) 4292 4292)).run Tryd.prog (W i) = .ok (.string s2) (W i) := fun i => hcv2 b9 _ ((y9.below (hb i) y9.lt).bytes)
              simp only [List.take_succ_cons, List.take_zero]
              refine q_load_rowW 22 (.tmp 14) (by rfl) (by kernel_rfl) (b4) (by rfl) 22 _ _ t4 Tryd.underlying22 rfl (name_info hn2) ?_
              simp only [Act.put, List.setIfInBounds_toArray, List.set_cons_succ, List.set_cons_zero]
              go_big_quiet_step (fail)
              refine q_load_rowW 24 (.tmp 8) (by rfl) (by kernel_rfl) (w0.heap.size + 1) (by rfl) 24 _ _ t1 Tryd.underlying24 rfl (id_info hs) ?_
              simp only [Act.put, List.setIfInBounds_toArray, List.set_cons_succ, List.set_cons_zero]
              go_big_quiet_step ((go_at_call 15; exact (hP1 _ (tL _)).mono (fun e w' ⟨he, hw⟩ => ⟨he, hc _ _ hw⟩)))
              refine q_load_rowW 24 (.tmp 13) (by rfl) (by kernel_rfl) (gk) (by rfl) 24 _ _ t3 Tryd.underlying24 rfl (id_info hPKl) ?_
              simp only [Act.put, List.setIfInBounds_toArray, List.set_cons_succ, List.set_cons_zero]
              go_big_quiet_step (fail)
              refine q_load_rowW 24 (.tmp 18) (by rfl) (by kernel_rfl) (b13) (by rfl) 24 _ _ u13 Tryd.underlying24 rfl (id_info hK1) ?_
              simp only [Act.put, List.setIfInBounds_toArray, List.set_cons_succ, List.set_cons_zero]
              refine q_load_rowW 24 (.tmp 13) (by rfl) (by kernel_rfl) (gk) (by rfl) 24 _ _ t3 Tryd.underlying24 rfl (id_info hPKl) ?_
              simp only [Act.put, List.setIfInBounds_toArray, List.set_cons_succ, List.set_cons_zero]
              go_big_quiet_step (fail)
              go_big_quiet_step (fail)
              go_big_quiet_step (fail)
              refine q_load_rowW 22 (.tmp 6) (by rfl) (by kernel_rfl) (w0.heap.size) (by rfl) 22 _ _ t0 Tryd.underlying22 rfl (name_info hn) ?_
              simp only [Act.put, List.setIfInBounds_toArray, List.set_cons_succ, List.set_cons_zero]
              go_big_quiet_step (fail)
              go_big_quiet_step (fail)
              refine q_load_rowW 24 (.tmp 8) (by rfl) (by kernel_rfl) (w0.heap.size + 1) (by rfl) 24 _ _ t1 Tryd.underlying24 rfl (id_info hs) ?_
              simp only [Act.put, List.setIfInBounds_toArray, List.set_cons_succ, List.set_cons_zero]
              go_big_quiet_step ((go_at_call 15; exact (hP2 _ (tL _)).mono (fun e w' ⟨he, hw⟩ => ⟨he, hc _ _ hw⟩)))
              refine q_load_rowW 24 (.tmp 13) (by rfl) (by kernel_rfl) (gk) (by rfl) 24 _ _ t3 Tryd.underlying24 rfl (id_info hPKl) ?_
              simp only [Act.put, List.setIfInBounds_toArray, List.set_cons_succ, List.set_cons_zero]
              go_big_quiet_step (fail)
              refine q_load_rowW 24 (.tmp 19) (by rfl) (by kernel_rfl) (b14) (by rfl) 24 _ _ u14 Tryd.underlying24 rfl (id_info hK2) ?_
              simp only [Act.put, List.setIfInBounds_toArray, List.set_cons_succ, List.set_cons_zero]
              refine q_load_rowW 24 (.tmp 13) (by rfl) (by kernel_rfl) (gk) (by rfl) 24 _ _ t3 Tryd.underlying24 rfl (id_info hPKl) ?_
              simp only [Act.put, List.setIfInBounds_toArray, List.set_cons_succ, List.set_cons_zero]
              go_big_quiet_step (fail)
              go_big_quiet_step (fail)
              go_big_quiet_step (fail)
              go_big_quiet_step (fail)
              refine q_load_rowW 22 (.tmp 6) (by rfl) (by kernel_rfl) (w0.heap.size) (by rfl) 22 _ _ t0 Tryd.underlying22 rfl (name_info hn) ?_
              simp only [Act.put, List.setIfInBounds_toArray, List.set_cons_succ, List.set_cons_zero]
              go_big_quiet_step (fail)
              refine q_load_rowW 24 (.tmp 15) (by rfl) (by kernel_rfl) (b3) (by rfl) 24 _ _ t5 Tryd.underlying24 rfl (id_info hs2) ?_
              simp only [Act.put, List.setIfInBounds_toArray, List.set_cons_succ, List.set_cons_zero]
              go_big_quiet_step ((go_at_call 15; exact (hP3 _ (tL _)).mono (fun e w' ⟨he, hw⟩ => ⟨he, hc _ _ hw⟩)))
              refine q_load_rowW 24 (.tmp 13) (by rfl) (by kernel_rfl) (gk) (by rfl) 24 _ _ t3 Tryd.underlying24 rfl (id_info hPKl) ?_
              simp only [Act.put, List.setIfInBounds_toArray, List.set_cons_succ, List.set_cons_zero]
              go_big_quiet_step (fail)
              refine q_load_rowW 24 (.tmp 20) (by rfl) (by kernel_rfl) (b15) (by rfl) 24 _ _ u15 Tryd.underlying24 rfl (id_info hK3) ?_
              simp only [Act.put, List.setIfInBounds_toArray, List.set_cons_succ, List.set_cons_zero]
              refine q_load_rowW 24 (.tmp 13) (by rfl) (by kernel_rfl) (gk) (by rfl) 24 _ _ t3 Tryd.underlying24 rfl (id_info hPKl) ?_
              simp only [Act.put, List.setIfInBounds_toArray, List.set_cons_succ, List.set_cons_zero]
              go_big_quiet_step (fail)
              go_big_quiet_step (fail)
              go_big_quiet_step (fail)
              go_big_quiet_step (fail)
              go_big_quiet_step (fail)
              go_big_quiet_step (fail)
              go_big_quiet_step (fail)
              go_big_quiet_step (fail)
              go_big_quiet_step (fail)
              go_big_quiet_step (fail)
              go_big_quiet_step (fail)
              go_big_quiet_step (fail)
              exact wpQuiet_nil rfl
            · simp only [List.drop_succ_cons, List.drop_zero]
              go_wp2
              go_ret
              exact ⟨rfl, yb.trans (hbF.mono yb.size)⟩
end

section
open Go Go.RowKit

set_option maxRecDepth 20000 in
set_option maxHeartbeats 1000000 in
theorem apart_by (S : List Int → List Int) (hS : Hash S) (nm seed : List Int) (q at_ by_ : Int) (mp : Option Addr) (ml mc : Nat) (w0 : World) (hL : Laid w0) (h : by_ = 0) :
    Calls Tryd.prog 6 #[.agg (v8 nm), .int .i64 q, .agg (v8 seed), .int .i64 at_, .int .u8 by_, .slice mp ml mc] w0 fun e w' => e = .returned (.bool true) ∧ Below w0.heap.size w0 w' := by
  have hK : ∀ wx, Laid wx → Calls Tryd.prog 14 #[] wx fun e w' => e = .returned (.bool true) ∧ Below wx.heap.size wx w' := fun wx hl => known5_any S hS wx hl
  have c1 : (by_ == 0) = true := by simp [h]
  go_enter Tryd.func6, Tryd.ntmps6
  go_upto_region 1 with fail
  have b1 : Below w0.heap.size w0 (World.alloc (World.alloc w0 (.cells (v8 nm) 22)) (.cells (v8 seed) 24)) := ((Below.refl _ _).alloc (Nat.le_refl _) _).alloc (by simp) _
  change Code.wp _ _ _ _ ((World.alloc (World.alloc w0 (.cells (v8 nm) 22)) (.cells (v8 seed) 24)))
  generalize (World.alloc (World.alloc w0 (.cells (v8 nm) 22)) (.cells (v8 seed) 24)) = w1 at b1 ⊢
  go_wp2_with (go_at_call 14; (with_reducible refine Calls.mono (hK _ (hL.below b1)) ?_); rintro e w2 ⟨rfl, hb2⟩)
  go_ret
  exact ⟨rfl, b1.trans (hb2.mono b1.size)⟩
set_option maxRecDepth 20000 in
set_option maxHeartbeats 1000000 in
theorem apart_at (S : List Int → List Int) (hS : Hash S) (nm seed : List Int) (q at_ by_ : Int) (mp : Option Addr) (ml mc : Nat) (w0 : World) (hL : Laid w0) (hb : by_ ≠ 0) (h : at_ < 0) :
    Calls Tryd.prog 6 #[.agg (v8 nm), .int .i64 q, .agg (v8 seed), .int .i64 at_, .int .u8 by_, .slice mp ml mc] w0 fun e w' => e = .returned (.bool true) ∧ Below w0.heap.size w0 w' := by
  have hK : ∀ wx, Laid wx → Calls Tryd.prog 14 #[] wx fun e w' => e = .returned (.bool true) ∧ Below wx.heap.size wx w' := fun wx hl => known5_any S hS wx hl
  have c1 : (by_ == 0) = false := by simpa using hb
  have c2 : decide (at_ < 0) = true := by simpa using h
  go_enter Tryd.func6, Tryd.ntmps6
  go_upto_region 1 with fail
  have b1 : Below w0.heap.size w0 (World.alloc (World.alloc w0 (.cells (v8 nm) 22)) (.cells (v8 seed) 24)) := ((Below.refl _ _).alloc (Nat.le_refl _) _).alloc (by simp) _
  change Code.wp _ _ _ _ ((World.alloc (World.alloc w0 (.cells (v8 nm) 22)) (.cells (v8 seed) 24)))
  generalize (World.alloc (World.alloc w0 (.cells (v8 nm) 22)) (.cells (v8 seed) 24)) = w1 at b1 ⊢
  go_wp2_with (go_at_call 14; (with_reducible refine Calls.mono (hK _ (hL.below b1)) ?_); rintro e w2 ⟨rfl, hb2⟩)
  go_ret
  exact ⟨rfl, b1.trans (hb2.mono b1.size)⟩
set_option maxRecDepth 20000 in
set_option maxHeartbeats 1000000 in
theorem apart_len (S : List Int → List Int) (hS : Hash S) (nm seed : List Int) (q at_ by_ : Int) (mp : Option Addr) (ml mc : Nat) (w0 : World) (hL : Laid w0) (hb : by_ ≠ 0) (ha : 0 ≤ at_) (h : 100 < ml) :
    Calls Tryd.prog 6 #[.agg (v8 nm), .int .i64 q, .agg (v8 seed), .int .i64 at_, .int .u8 by_, .slice mp ml mc] w0 fun e w' => e = .returned (.bool true) ∧ Below w0.heap.size w0 w' := by
  have hK : ∀ wx, Laid wx → Calls Tryd.prog 14 #[] wx fun e w' => e = .returned (.bool true) ∧ Below wx.heap.size wx w' := fun wx hl => known5_any S hS wx hl
  have c1 : (by_ == 0) = false := by simpa using hb
  have c2 : decide (at_ < 0) = false := decide_eq_false (by omega)
  have c3 : decide ((ml : Int) > 100) = true := decide_eq_true (by omega)
  go_enter Tryd.func6, Tryd.ntmps6
  go_upto_region 1 with fail
  have b1 : Below w0.heap.size w0 (World.alloc (World.alloc w0 (.cells (v8 nm) 22)) (.cells (v8 seed) 24)) := ((Below.refl _ _).alloc (Nat.le_refl _) _).alloc (by simp) _
  change Code.wp _ _ _ _ ((World.alloc (World.alloc w0 (.cells (v8 nm) 22)) (.cells (v8 seed) 24)))
  generalize (World.alloc (World.alloc w0 (.cells (v8 nm) 22)) (.cells (v8 seed) 24)) = w1 at b1 ⊢
  go_wp2_with (go_at_call 14; (with_reducible refine Calls.mono (hK _ (hL.below b1)) ?_); rintro e w2 ⟨rfl, hb2⟩)
  go_ret
  exact ⟨rfl, b1.trans (hb2.mono b1.size)⟩
set_option maxRecDepth 20000 in
set_option maxHeartbeats 1000000 in
theorem apart_neg (S : List Int → List Int) (hS : Hash S) (nm seed : List Int) (q at_ by_ : Int) (mp : Option Addr) (ml mc : Nat) (w0 : World) (hL : Laid w0) (hb : by_ ≠ 0) (ha : 0 ≤ at_) (hm : ml ≤ 100) (h : q < 0) :
    Calls Tryd.prog 6 #[.agg (v8 nm), .int .i64 q, .agg (v8 seed), .int .i64 at_, .int .u8 by_, .slice mp ml mc] w0 fun e w' => e = .returned (.bool true) ∧ Below w0.heap.size w0 w' := by
  have hK : ∀ wx, Laid wx → Calls Tryd.prog 14 #[] wx fun e w' => e = .returned (.bool true) ∧ Below wx.heap.size wx w' := fun wx hl => known5_any S hS wx hl
  have c1 : (by_ == 0) = false := by simpa using hb
  have c2 : decide (at_ < 0) = false := decide_eq_false (by omega)
  have c3 : decide ((ml : Int) > 100) = false := decide_eq_false (by omega)
  have c4 : decide (q < 0) = true := by simpa using h
  go_enter Tryd.func6, Tryd.ntmps6
  go_upto_region 1 with fail
  have b1 : Below w0.heap.size w0 (World.alloc (World.alloc w0 (.cells (v8 nm) 22)) (.cells (v8 seed) 24)) := ((Below.refl _ _).alloc (Nat.le_refl _) _).alloc (by simp) _
  change Code.wp _ _ _ _ ((World.alloc (World.alloc w0 (.cells (v8 nm) 22)) (.cells (v8 seed) 24)))
  generalize (World.alloc (World.alloc w0 (.cells (v8 nm) 22)) (.cells (v8 seed) 24)) = w1 at b1 ⊢
  go_wp2_with (go_at_call 14; (with_reducible refine Calls.mono (hK _ (hL.below b1)) ?_); rintro e w2 ⟨rfl, hb2⟩)
  go_ret
  exact ⟨rfl, b1.trans (hb2.mono b1.size)⟩
set_option maxRecDepth 20000 in
set_option maxHeartbeats 1000000 in
theorem apart_big (S : List Int → List Int) (hS : Hash S) (nm seed : List Int) (q at_ by_ : Int) (mp : Option Addr) (ml mc : Nat) (w0 : World) (hL : Laid w0) (hb : by_ ≠ 0) (ha : 0 ≤ at_) (hm : ml ≤ 100) (h : 2147483646 < q) :
    Calls Tryd.prog 6 #[.agg (v8 nm), .int .i64 q, .agg (v8 seed), .int .i64 at_, .int .u8 by_, .slice mp ml mc] w0 fun e w' => e = .returned (.bool true) ∧ Below w0.heap.size w0 w' := by
  have hK : ∀ wx, Laid wx → Calls Tryd.prog 14 #[] wx fun e w' => e = .returned (.bool true) ∧ Below wx.heap.size wx w' := fun wx hl => known5_any S hS wx hl
  have c1 : (by_ == 0) = false := by simpa using hb
  have c2 : decide (at_ < 0) = false := decide_eq_false (by omega)
  have c3 : decide ((ml : Int) > 100) = false := decide_eq_false (by omega)
  have c4 : decide (q < 0) = false := decide_eq_false (by omega)
  have c5 : decide (q > 2147483646) = true := decide_eq_true (by omega)
  go_enter Tryd.func6, Tryd.ntmps6
  go_upto_region 1 with fail
  have b1 : Below w0.heap.size w0 (World.alloc (World.alloc w0 (.cells (v8 nm) 22)) (.cells (v8 seed) 24)) := ((Below.refl _ _).alloc (Nat.le_refl _) _).alloc (by simp) _
  change Code.wp _ _ _ _ ((World.alloc (World.alloc w0 (.cells (v8 nm) 22)) (.cells (v8 seed) 24)))
  generalize (World.alloc (World.alloc w0 (.cells (v8 nm) 22)) (.cells (v8 seed) 24)) = w1 at b1 ⊢
  go_wp2_with (go_at_call 14; (with_reducible refine Calls.mono (hK _ (hL.below b1)) ?_); rintro e w2 ⟨rfl, hb2⟩)
  go_ret
  exact ⟨rfl, b1.trans (hb2.mono b1.size)⟩
theorem apart_any (S : List Int → List Int) (hS : Hash S) (nm seed msg : List Int) (q at_ by_ : Int) (mp : Option Addr) (ml mc : Nat) (w0 : World) (hL : Laid w0) (hn : nm.length = 16) (hs : seed.length = 32) (hml : msg.length = ml) (hmn : mp = none → mc = 0 ∧ ml = 0) (hmb : Bytes w0 mp msg) :
    Calls Tryd.prog 6 #[.agg (v8 nm), .int .i64 q, .agg (v8 seed), .int .i64 at_, .int .u8 by_, .slice mp ml mc] w0 fun e w' => e = .returned (.bool true) ∧ Below w0.heap.size w0 w' := by
  by_cases h1 : by_ = 0
  · exact apart_by S hS nm seed q at_ by_ mp ml mc w0 hL h1
  by_cases h2 : at_ < 0
  · exact apart_at S hS nm seed q at_ by_ mp ml mc w0 hL h1 h2
  by_cases h3 : 100 < ml
  · exact apart_len S hS nm seed q at_ by_ mp ml mc w0 hL h1 (by omega) h3
  by_cases h4 : q < 0
  · exact apart_neg S hS nm seed q at_ by_ mp ml mc w0 hL h1 (by omega) (by omega) h4
  by_cases h5 : 2147483646 < q
  · exact apart_big S hS nm seed q at_ by_ mp ml mc w0 hL h1 (by omega) (by omega) h5
  exact apart_main S hS nm seed msg q at_ by_ mp ml mc w0 hL hn hs hml hmn (by omega) hmb h1 (by omega) (by omega) (by omega)
end

end Go.Proofs.YtoebnkepeledmaaDoor
