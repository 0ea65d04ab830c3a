/- BlobCuts returns true and turns no old memory, for any number, ids and bytes. No condition. -/
import Derived.Test.YtgcffdnbihfghaaCutM
namespace Go.Proofs.Ytgcffdnbihfghaa
open Go Go.RowKit
theorem errN_cut {s : Int} {t : List Int} (h0 : 0 ≤ s) (h1 : s < 5000) (ht : s = 0 → t = zer 32) : errN ⟨1, s, lvl s, t⟩ = 0 := by
  unfold errN okN
  rw [if_neg (by simp), if_pos]
  by_cases h : s = 0
  · subst h; simp [ht rfl]
  · simp [h]; omega
theorem built_rc (p q : Option Addr) (np cp nq cq : Nat) (v : Int) (t : List Int) (ht : t.length = 32) : Try.prog.built 70 [(0, .slice p np cp), (1, .int .i64 v), (2, .agg (v8 t)), (3, .slice q nq cq)] = some (rc (.slice p np cp) v t (.slice q nq cq)) := by
  rw [list_map t 32 ht]
  generalize gi t = f
  kernel_rfl
def TupS (w : World) (B : Nat) (s : Value) (n : Nat) (L : List Int) : Prop := ∃ sp cap, s = .tuple #[.slice sp n cap, .int .i64 0] ∧ Own8 w B 5 (.slice sp n cap) L
theorem TupS.below {w w' : World} {B n : Nat} {s : Value} {L : List Int} (h : TupS w B s n L) (hb : Below w.heap.size w w') : TupS w' B s n L := by
  obtain ⟨sp, cap, rfl, h⟩ := h
  exact ⟨sp, cap, rfl, h.below hb (Nat.le_refl _)⟩
theorem exec_load_mid {P : Program} {o : Oper} {a : Act} {w : World} (ty : TypeId) (x : Operand) (ho : o.op = .load ty x) (b off : Nat) (hx : a.eval x = .pointer (some ⟨b, off, none⟩)) (cs : List Value) (d : TypeDesc) (hr : w.rangeAt b off cs)
    (hu : P.underlying ty = some d) (hd : d.isRow = true) (hi : (P.info? ty).map (·.size) = some cs.length) : (execOp a.eval o).run P w = .ok (.value (.agg cs.toArray)) w := by
  unfold execOp
  simp only [ho, hx, Instr.loadAt, Instr.sureAddr, Sem.run_bind, Sem.run_pure, Result.andThen_ok, run_loadVar_mid w b off ty cs d hr hu hd hi]
theorem exec_build_rc {P0 S0 : Value} {o : Oper} {a : Act} {w : World} (x y z t : Operand) (ho : o.op = .build 70 #[(0, x), (1, y), (2, z), (3, t)]) (v : Int) (vt : List Int) (hx : a.eval x = P0) (hy : a.eval y = .int .i64 v) (hz : a.eval z = .agg (v8 vt)) (ht : a.eval t = S0)
    (hb : Try.prog.built 70 [(0, P0), (1, .int .i64 v), (2, .agg (v8 vt)), (3, S0)] = some (rc P0 v vt S0)) : (execOp a.eval o).run Try.prog w = .ok (.value (.agg (rc P0 v vt S0))) w := by
  have hr := run_build (P := Try.prog) w 70 #[(0, P0), (1, .int .i64 v), (2, .agg (v8 vt)), (3, S0)] _ hb
  unfold execOp
  simp only [ho, List.map_toArray, List.map_cons, List.map_nil, hx, hy, hz, ht, Sem.run_bind, hr, Result.andThen_ok, Sem.run_pure]
theorem own_base {w : World} {B g n cap : Nat} {l : List Int} (h : Own8 w B 5 (.slice (some ⟨g, 0, none⟩) n cap) l) : B ≤ g := by
  obtain ⟨_, h⟩ := h
  rcases h with ⟨h, _⟩ | ⟨g', c', cu, hv, hg, _⟩
  · injection h with h; cases h
  · injection hv with hv; injection hv with hv; injection hv with hv; omega
theorem own_in {w : World} {B g n cap : Nat} {l : List Int} (h : Own8 w B 5 (.slice (some ⟨g, 0, none⟩) n cap) l) : B ≤ g ∧ g < w.heap.size := by
  refine ⟨own_base h, ?_⟩
  rcases h.row with ⟨h, _⟩ | ⟨g', cur, h1, h2, _⟩
  · cases h
  · injection h1 with h1; injection h1 with h1; subst h1; exact h2.lt
theorem own_at {w : World} {B n cap : Nat} {sp : Option Addr} {l : List Int} (h : Own8 w B 5 (.slice sp n cap) l) (hl : 0 < n) : ∃ g, sp = some ⟨g, 0, none⟩ ∧ n ≤ cap := by
  rcases h.row with ⟨_, _, _, h⟩ | ⟨g', cur, h1, h2, h3, h4⟩
  · omega
  · exact ⟨g', h1, by omega⟩
theorem own_cap {w : World} {B n cap : Nat} {sp : Option Addr} {l : List Int} (h : Own8 w B 5 (.slice sp n cap) l) (hl : 0 < n) : n ≤ cap := let ⟨_, _, h⟩ := own_at h hl; h
theorem own_kept {w w' : World} {B : Nat} {v : Value} {l : List Int} {ob : Option Nat} (h : Own8 w B 5 v l) (hg : w.grownBy w' ob) (hne : v.ownBlock ≠ ob) : Own8 w' B 5 v l := World.ownsRow.kept h hg (.inr hne)
set_option maxRecDepth 20000 in
set_option maxHeartbeats 2000000 in
theorem cuts_walk (size : Int) (F pub sig : List Int) (n : Nat) (pf ps : Option Addr) (cf cs : Nat) (w : World) (hF : F.length = 32 * n) (hn : n ≤ 9223372036854775807) (hf : Bytes w pf F) (yf : By F) (hp : pub.length = 56) (yp : By pub)
    (hs : Bytes w ps sig) (ys : By sig) (hms : sig.length ≤ 9223372036854775807) :
    Calls Try.prog 7 #[.int .i64 size, .slice pf n cf, .agg (v8 pub), .slice ps sig.length cs] w fun e w' => e = .returned (.bool true) ∧ Below w.heap.size w w' := by
  have hb : Below w.heap.size w (w.alloc (.cells (v8 pub) 67)) := (Below.refl _ _).alloc (Nat.le_refl _) _
  have hrow : Row (w.alloc (.cells (v8 pub) 67)) w.heap.size 67 (v8 pub) := Row.new _ _ _
  by_cases h0 : n = 0
  · subst h0
    go_enter Try.func7, Try.ntmps7
    go_wp2_with (go_at_call 9; (with_reducible refine Calls.mono (known_any _) ?_); rintro e w1 ⟨rfl, hb1⟩)
    go_ret
    exact ⟨rfl, hb.trans (hb1.mono hb.size)⟩
  have h0b : ((n : Int) == 0) = false := by simp; omega
  by_cases h8 : n > 8
  · go_enter Try.func7, Try.ntmps7
    go_wp2_with (go_at_call 9; (with_reducible refine Calls.mono (known_any _) ?_); rintro e w1 ⟨rfl, hb1⟩)
    go_ret
    exact ⟨rfl, hb.trans (hb1.mono hb.size)⟩
  obtain ⟨sl, hsl⟩ : ∃ sl, sig.length = sl := ⟨_, rfl⟩
  rw [hsl] at hms ⊢
  by_cases h60 : sl > 60
  · go_enter Try.func7, Try.ntmps7
    go_wp2_with (go_at_call 9; (with_reducible refine Calls.mono (known_any _) ?_); rintro e w1 ⟨rfl, hb1⟩)
    go_ret
    exact ⟨rfl, hb.trans (hb1.mono hb.size)⟩
  have h0s := Int.emod_nonneg size (show (5000 : Int) ≠ 0 by decide)
  have h1s := Int.emod_lt_of_pos size (show (0 : Int) < 5000 by decide)
  have hw1 := fun w1 => within_any size 5000 w1 (by decide) (by decide)
  generalize size % 5000 = s at *
  obtain ⟨bf, of, rfl, _⟩ := hf (by omega)
  have hbf : bf < w.heap.size := by obtain ⟨b', o', e, hc⟩ := hf (by omega); cases e; exact block_lt_of_cell (hc 0 (by omega))
  obtain ⟨gp, hgp⟩ : ∃ gp, w.heap.size = gp := ⟨_, rfl⟩
  have hgp' : w.heap.size ≤ gp := by omega
  go_enter Try.func7, Try.ntmps7
  go_upto_region 5 with (go_at_call 9; (with_reducible refine Calls.mono (known_any _) ?_); rintro e w1 ⟨rfl, hb1⟩)
  try simp only [hgp]
  rw [hgp] at hrow
  have r0 := hrow.below hb1 hrow.lt
  have b1 := hb.trans (hb1.mono hb.size)
  have hgp2 : gp < w1.heap.size := r0.lt
  clear hb hrow hb1 hgp
  obtain ⟨g, hg⟩ : ∃ g, w1.heap.size = g := ⟨_, rfl⟩
  have hi1 : (Try.prog.info? 25).map (·.size) = some (nc ⟨1, s, 0, zer 32⟩).size := info25 rfl
  go_upto_region 6 with (first | (go_at_call 27; (with_reducible refine Calls.mono (hw1 _) ?_); rintro e w2 ⟨rfl, hw⟩; obtain rfl := hw.symm; clear hw) | (refine store_row0 25 (.tmp 9) (.tmp 49) (by rfl) (by rfl) (by rfl) g (nc ⟨1, s, 0, zer 32⟩) (by rfl) (by rfl) 25 (nc zeroN) (Row.newAt _ _ _ _ hg.symm) hi1 rfl (nc_one _) ?_))
  have q0 : Row ((w1.alloc (.cells (nc zeroN) 25)).setRow g (nc ⟨1, s, 0, zer 32⟩)) gp 67 (v8 pub) := (r0.alloc _).setRowOther (by omega) _
  have q1 : NRow ((w1.alloc (.cells (nc zeroN) 25)).setRow g (nc ⟨1, s, 0, zer 32⟩)) g ⟨1, s, 0, zer 32⟩ := ⟨(Row.newAt _ _ _ _ hg.symm).setRow _⟩
  have qb : Below w.heap.size w ((w1.alloc (.cells (nc zeroN) 25)).setRow g (nc ⟨1, s, 0, zer 32⟩)) := below_setRow (b1.alloc b1.size _) (by have := b1.size; omega) _
  have hgg : gp < g := by omega
  change Code.wp _ _ _ _ ((w1.alloc (.cells (nc zeroN) 25)).setRow g (nc ⟨1, s, 0, zer 32⟩))
  generalize (w1.alloc (.cells (nc zeroN) 25)).setRow g (nc ⟨1, s, 0, zer 32⟩) = w2 at q0 q1 qb ⊢
  clear r0 b1 hgp2 hg hw1 hi1
  go_wp2
  go_loopw [10] (fun m wr => ∃ k : Nat, k ≤ 5 ∧ m = .int .i64 (roomN k) ∧ (∀ j, j < k → roomN j < s) ∧ Row wr gp 67 (v8 pub) ∧ NRow wr g ⟨1, s, k, zer 32⟩ ∧ Below w.heap.size w wr) (fun m wr => (5242880 - (intOf m)).toNat)
  case atStart => exact ⟨0, by omega, rfl, fun j hj => by omega, q0, q1, qb⟩
  case round =>
    obtain ⟨k, hk, rfl, q, r0, r1, rb⟩ := hrel
    have c1 := r1.c1
    by_cases q2 : roomN k < s
    · obtain ⟨q3, q4, q5⟩ := room_next (by omega) hk q q2
      have q6 := room_small hk
      have q7 := room_small q3
      have c2 := r1.c2
      have f2 := r1.row.frozen (j := 2)
      have t0 := r0.setOther (a := ⟨g, 2, none⟩) (by simp; omega) (.int .i64 ((k : Int) + 1))
      have t1 := r1.set2 ((k : Int) + 1)
      have tb := rb.setCell (p := ⟨g, 2, none⟩) (by simp; omega) (.int .i64 ((k : Int) + 1))
      generalize roomN k = r at *
      go_wp2
      go_roundw
      case rel => exact ⟨k + 1, by omega, by rw [← q5], q4, t0, by simpa using t1, tb⟩
      case measure => simp [intOf]; omega
    · have q3 := room_lvl (by omega) hk q (by omega)
      rw [← q3] at r1
      have q6 := room_small hk
      clear q q3 q0 q1 qb
      generalize roomN k = r at *
      have hsF := rb
      have hC0 := cutF_len hF (show 0 < n by omega)
      have yC0 : By (cutF F 0) := fun x hx => yf x (List.mem_of_mem_drop (List.mem_of_mem_take hx))
      have hi23c : (Try.prog.info? 23).map (·.size) = some (v8 (cutF F 0)).toList.length := by rw [Array.length_toList, v8_size, hC0]; kernel_rfl
      have hrgF : ∀ wx, Below w.heap.size w wx → wx.rangeAt bf of (v8 (cutF F 0)).toList := fun wx h => by
        have := rangeF (hf.below h) hF (show 0 < n by omega)
        simpa using this
      generalize cutF F 0 = C0 at *
      have hto : (v8 C0).toList.toArray = v8 C0 := by simp
      clear hsF
      by_cases hs0 : 0 < s
      · have hrg := hrgF _ rb
        have t1 := r1.row.setRow (nc ⟨1, s, lvl s, C0⟩)
        have t0 := r0.setRowOther (g := g) (by omega) (nc ⟨1, s, lvl s, C0⟩)
        have tb := below_setRow (g := g) rb (by omega) (nc ⟨1, s, lvl s, C0⟩)
        go_upto_region 12 with (first | (refine wpList_load_mid (by rfl) 23 (.tmp 64) (by rfl) bf of (by rfl) (v8 C0).toList _ hrg Try.underlying23 rfl hi23c ?_; rw [hto]) | (refine store_top (.tmp 66) (.tmp 65) (by rfl) (by rfl) (by rfl) g C0 (by rfl) (by rfl) 1 s (lvl s) (zer 32) r1.row rfl hC0 ?_))
        have eM := errN_cut (t := C0) h0s h1s (fun h => by omega)
        have tM : (⟨1, s, lvl s, C0⟩ : Nd).top.length = 32 := hC0
        have yM : By (⟨1, s, lvl s, C0⟩ : Nd).top := yC0
        replace r1 : NRow _ g ⟨1, s, lvl s, C0⟩ := ⟨t1⟩
        generalize (⟨1, s, lvl s, C0⟩ : Nd) = M at *
        change Code.wp _ _ _ _ (wr.setRow g (nc M))
        generalize wr.setRow g (nc M) = w3 at r1 t0 t1 tb ⊢
        replace r0 := t0
        replace rb := tb
        clear hrg t0 t1 tb c1 hs0
        have hpe := pNd_enc eM tM yM
        have hin := fun wx => inode_any M wx tM
        have hlA := encN_len tM
        have yA := by_encN eM yM
        have hi25 : (Try.prog.info? 25).map (·.size) = some (nc M).size := info25 tM
        rw [eM, outN_ok eM] at hin
        unfold Gives at hin
        have hpf := pErr_front hpe.2
        have hpm := pErr_more hpe.2 0
        have hiM := fun k => pNd_len ((encN M).take k)
        generalize encN M = A at *
        rw [hlA] at hin
        have hinn := fun wx (h : Below w.heap.size w wx) => inner_any F n (some ⟨bf, of, none⟩) cf wx hF (by omega) (hf.below h)
        have heI : errI n = 0 := by unfold errI; rw [if_neg h0, if_neg (by omega)]
        have hoI : outI F n = [110, (n : Int)] ++ F := by unfold outI; rw [if_pos heI]
        have hqf := qErr_front hF (show 1 ≤ n by omega) (show n ≤ 8 by omega)
        have hqm := qErr_more hF (show 1 ≤ n by omega) (show n ≤ 8 by omega) 0
        have hlB : ([110, (n : Int)] ++ F : List Int).length = 2 + 32 * n := by simp [hF]; omega
        have yB : By ([110, (n : Int)] ++ F) := By.append (fun x hx => by simp only [List.mem_cons, List.not_mem_nil, or_false] at hx; rcases hx with rfl | rfl <;> omega) yf
        rw [heI, hoI] at hinn
        unfold Gives at hinn
        generalize [110, (n : Int)] ++ F = Bq at *
        rw [hlB] at hinn
        have hroot := fun wx (h : Below w.heap.size w wx) (hx : Bytes wx (some ⟨gp, 0, none⟩) pub) => root_any pub C0 sig 7 (some ⟨gp, 0, none⟩) ps 56 cs wx hp hC0 (by omega) (by decide) (by decide) hx (hs.below h)
        have hlR := encR_len (sig := sig) (ver := 7) hp hC0
        have yR := by_encR yp yC0 ys
        have hrf := rErr_front hp hC0 (show sig.length ≤ 5000 by omega)
        have hrm := rErr_more hp hC0 (show sig.length ≤ 5000 by omega) 0
        have hhf := head_front hp hC0 (show sig.length ≤ 5000 by omega)
        have hhm := head_more hp hC0 (show sig.length ≤ 5000 by omega) 0
        unfold Gives at hroot
        generalize encR pub 7 C0 sig = R at *
        rw [hsl] at hlR hroot hrf
        rw [hlR] at hroot
        clear heI hoI hpe eM yM
        go_upto_region 14 with (first | (refine wpList_load_row (by rfl) 25 (.tmp 9) (by rfl) g (by rfl) 25 (nc M) (0, 0) _ r1.row Try.underlying25 rfl hi25 ?_) | (go_at_call 11; (with_reducible refine Calls.mono (hin _) ?_); rintro e w4 ⟨sA, cA, rfl, oA, hb4⟩; have b4 := rb.trans (hb4.mono rb.size)) | (go_at_call 16; (with_reducible refine Calls.mono (hinn _ b4) ?_); rintro e w5 ⟨sB, cB, rfl, oB, hb5⟩; have b5 := b4.trans (hb5.mono b4.size)))
        have p5 := (r0.below hb4 r0.lt).below hb5 (by have := hb4.size; have := r0.lt; omega)
        have oA5 := oA.below hb5 (Nat.le_refl _)
        have hbr := built_rc (some ⟨gp, 0, none⟩) ps 56 56 sl cs 7 C0 hC0
        obtain ⟨B, hB⟩ : ∃ B, w5.heap.size = B := ⟨_, rfl⟩
        have hsB : ∀ {w : World}, Below B w5 w → B ≤ w.heap.size := fun h => by have := h.size; omega
        have hwB : w.heap.size ≤ B := by have := b5.size; omega
        have hrg5 : ∀ wx, Below B w5 wx → wx.rangeAt bf of (v8 C0).toList := fun wx h => hrgF wx (b5.trans (h.mono hwB))
        have hro5 := fun wx (h : Below B w5 wx) => hroot wx (b5.trans (h.mono hwB)) ((p5.below h (by rw [← hB]; exact p5.lt)).bytes)
        refine region_invFA  (by kernel_rfl) (by kernel_rfl) (fun a0 listed a w => ∃ s15 s16 s77 s78 s79 s80 s81 s82 s83 s84 s85 s86, a = (Act.put (Act.put (Act.put (Act.put (Act.put (Act.put (Act.put (Act.put (Act.put (Act.put (Act.put (Act.put a0 (some 15) s15) (some 16) s16) (some 77) s77) (some 78) s78) (some 79) s79) (some 80) s80) (some 81) s81) (some 82) s82) (some 83) s83) (some 84) s84) (some 85) s85) (some 86) s86) ∧ Below B w5 w ∧ (listed.getD 0 false = true → s78 = .slice (some ⟨gp, 0, none⟩) 56 56) ∧ (listed.getD 1 false = true → s79 = .slice (some ⟨bf, of, none⟩) n cf) ∧ (listed.getD 2 false = true → s80 = .pointer (some ⟨bf, of, none⟩)) ∧ (listed.getD 3 false = true → s81 = .agg (v8 C0)) ∧ (listed.getD 4 false = true → s82 = .slice ps sl cs) ∧ (listed.getD 5 false = true → s83 = .agg (rc (.slice (some ⟨gp, 0, none⟩) 56 56) 7 C0 (.slice ps sl cs))) ∧ (listed.getD 6 false = true → TupS w B s84 (95 + sl) R) ∧ (listed.getD 7 false = true → TupS w B s77 (95 + sl) R) ∧ (listed.getD 8 false = true → OwnS w B s85 (95 + sl) R) ∧ (listed.getD 9 false = true → s86 = .int .i64 0) ∧ (listed.getD 10 false = true → OwnS w B s15 (95 + sl) R) ∧ (listed.getD 11 false = true → s16 = .int .i64 0)) ?_ ?_ ?_
        all_goals simp only [Act.put, List.setIfInBounds_toArray, List.set_cons_succ, List.set_cons_zero]
        · exact ⟨_, _, _, _, _, _, _, _, _, _, _, _, rfl, (Below.refl B _).drew, (fun h => absurd h (by rw [getD_replicate_false]; decide)), (fun h => absurd h (by rw [getD_replicate_false]; decide)), (fun h => absurd h (by rw [getD_replicate_false]; decide)), (fun h => absurd h (by rw [getD_replicate_false]; decide)), (fun h => absurd h (by rw [getD_replicate_false]; decide)), (fun h => absurd h (by rw [getD_replicate_false]; decide)), (fun h => absurd h (by rw [getD_replicate_false]; decide)), (fun h => absurd h (by rw [getD_replicate_false]; decide)), (fun h => absurd h (by rw [getD_replicate_false]; decide)), (fun h => absurd h (by rw [getD_replicate_false]; decide)), (fun h => absurd h (by rw [getD_replicate_false]; decide)), (fun h => absurd h (by rw [getD_replicate_false]; decide))⟩
        · intro listed a w i o hls hJ hin ho hi hall hcl
          obtain ⟨s15, s16, s77, s78, s79, s80, s81, s82, s83, s84, s85, s86, rfl, hbW, c0, c1, c2, c3, c4, c5, c6, c7, c8, c9, c10, c11⟩ := hJ
          replace hin : i < 12 := hin
          rcases (by omega : i = 0 ∨ i = 1 ∨ i = 2 ∨ i = 3 ∨ i = 4 ∨ i = 5 ∨ i = 6 ∨ i = 7 ∨ i = 8 ∨ i = 9 ∨ i = 10 ∨ i = 11) with rfl | rfl | rfl | rfl | rfl | rfl | rfl | rfl | rfl | rfl | rfl | rfl
          · obtain rfl := Option.some.inj ho
            have hsz : 0 < listed.size := by rw [hls]; decide
            have hbw := hbW
            refine inv_val (w' := w) (.slice (some ⟨gp, 0, none⟩) 56 56) rfl rfl (by kernel_rfl) ?_
            exact ⟨s15, s16, s77, (.slice (some ⟨gp, 0, none⟩) 56 56), s79, s80, s81, s82, s83, s84, s85, s86, rfl, hbw, (fun _ => rfl), (fun h => c1 (bit_ne h (by decide))), (fun h => c2 (bit_ne h (by decide))), (fun h => c3 (bit_ne h (by decide))), (fun h => c4 (bit_ne h (by decide))), (fun h => c5 (bit_ne h (by decide))), (fun h => c6 (bit_ne h (by decide))), (fun h => c7 (bit_ne h (by decide))), (fun h => c8 (bit_ne h (by decide))), (fun h => c9 (bit_ne h (by decide))), (fun h => c10 (bit_ne h (by decide))), (fun h => c11 (bit_ne h (by decide)))⟩
          · obtain rfl := Option.some.inj ho
            have hsz : 1 < listed.size := by rw [hls]; decide
            have hbw := hbW
            refine inv_val (w' := w) (.slice (some ⟨bf, of, none⟩) n cf) rfl rfl rfl ?_
            exact ⟨s15, s16, s77, s78, (.slice (some ⟨bf, of, none⟩) n cf), s80, s81, s82, s83, s84, s85, s86, rfl, hbw, (fun h => c0 (bit_ne h (by decide))), (fun _ => rfl), (fun h => c2 (bit_ne h (by decide))), (fun h => c3 (bit_ne h (by decide))), (fun h => c4 (bit_ne h (by decide))), (fun h => c5 (bit_ne h (by decide))), (fun h => c6 (bit_ne h (by decide))), (fun h => c7 (bit_ne h (by decide))), (fun h => c8 (bit_ne h (by decide))), (fun h => c9 (bit_ne h (by decide))), (fun h => c10 (bit_ne h (by decide))), (fun h => c11 (bit_ne h (by decide)))⟩
          · obtain rfl := Option.some.inj ho
            have hsz : 2 < listed.size := by rw [hls]; decide
            have hdep1 : listed.getD 1 false = true := hall ⟨1, .data⟩ (by simp) (by rfl)
            obtain rfl := c1 hdep1
            have hbw := hbW
            refine inv_val (w' := w) (.pointer (some ⟨bf, of, none⟩)) rfl rfl (by go_simp) ?_
            exact ⟨s15, s16, s77, s78, (.slice (some ⟨bf, of, none⟩) n cf), (.pointer (some ⟨bf, of, none⟩)), s81, s82, s83, s84, s85, s86, rfl, hbw, (fun h => c0 (bit_ne h (by decide))), (fun h => c1 (bit_ne h (by decide))), (fun _ => rfl), (fun h => c3 (bit_ne h (by decide))), (fun h => c4 (bit_ne h (by decide))), (fun h => c5 (bit_ne h (by decide))), (fun h => c6 (bit_ne h (by decide))), (fun h => c7 (bit_ne h (by decide))), (fun h => c8 (bit_ne h (by decide))), (fun h => c9 (bit_ne h (by decide))), (fun h => c10 (bit_ne h (by decide))), (fun h => c11 (bit_ne h (by decide)))⟩
          · obtain rfl := Option.some.inj ho
            have hsz : 3 < listed.size := by rw [hls]; decide
            have hdep2 : listed.getD 2 false = true := hall ⟨2, .data⟩ (by simp) (by rfl)
            obtain rfl := c2 hdep2
            have hbw := hbW
            refine inv_val (w' := w) (.agg (v8 C0)) rfl rfl (by refine Eq.trans (exec_load_mid (P := Try.prog) 23 (.tmp 80) rfl bf of rfl (v8 C0).toList _ (hrg5 w hbW) Try.underlying23 rfl hi23c) (by simp)) ?_
            exact ⟨s15, s16, s77, s78, s79, (.pointer (some ⟨bf, of, none⟩)), (.agg (v8 C0)), s82, s83, s84, s85, s86, rfl, hbw, (fun h => c0 (bit_ne h (by decide))), (fun h => c1 (bit_ne h (by decide))), (fun h => c2 (bit_ne h (by decide))), (fun _ => rfl), (fun h => c4 (bit_ne h (by decide))), (fun h => c5 (bit_ne h (by decide))), (fun h => c6 (bit_ne h (by decide))), (fun h => c7 (bit_ne h (by decide))), (fun h => c8 (bit_ne h (by decide))), (fun h => c9 (bit_ne h (by decide))), (fun h => c10 (bit_ne h (by decide))), (fun h => c11 (bit_ne h (by decide)))⟩
          · obtain rfl := Option.some.inj ho
            have hsz : 4 < listed.size := by rw [hls]; decide
            have hbw := hbW
            refine inv_val (w' := w) (.slice ps sl cs) rfl rfl rfl ?_
            exact ⟨s15, s16, s77, s78, s79, s80, s81, (.slice ps sl cs), s83, s84, s85, s86, rfl, hbw, (fun h => c0 (bit_ne h (by decide))), (fun h => c1 (bit_ne h (by decide))), (fun h => c2 (bit_ne h (by decide))), (fun h => c3 (bit_ne h (by decide))), (fun _ => rfl), (fun h => c5 (bit_ne h (by decide))), (fun h => c6 (bit_ne h (by decide))), (fun h => c7 (bit_ne h (by decide))), (fun h => c8 (bit_ne h (by decide))), (fun h => c9 (bit_ne h (by decide))), (fun h => c10 (bit_ne h (by decide))), (fun h => c11 (bit_ne h (by decide)))⟩
          · obtain rfl := Option.some.inj ho
            have hsz : 5 < listed.size := by rw [hls]; decide
            have hdep0 : listed.getD 0 false = true := hall ⟨0, .data⟩ (by simp) (by rfl)
            obtain rfl := c0 hdep0
            have hdep3 : listed.getD 3 false = true := hall ⟨3, .data⟩ (by simp) (by rfl)
            obtain rfl := c3 hdep3
            have hdep4 : listed.getD 4 false = true := hall ⟨4, .data⟩ (by simp) (by rfl)
            obtain rfl := c4 hdep4
            have hbw := hbW
            refine inv_val (w' := w) (.agg (rc (.slice (some ⟨gp, 0, none⟩) 56 56) 7 C0 (.slice ps sl cs))) rfl rfl (exec_build_rc (.tmp 78) (.const (.int .i64 7)) (.tmp 81) (.tmp 82) rfl 7 C0 rfl rfl rfl rfl hbr) ?_
            exact ⟨s15, s16, s77, (.slice (some ⟨gp, 0, none⟩) 56 56), s79, s80, (.agg (v8 C0)), (.slice ps sl cs), (.agg (rc (.slice (some ⟨gp, 0, none⟩) 56 56) 7 C0 (.slice ps sl cs))), s84, s85, s86, rfl, hbw, (fun h => c0 (bit_ne h (by decide))), (fun h => c1 (bit_ne h (by decide))), (fun h => c2 (bit_ne h (by decide))), (fun h => c3 (bit_ne h (by decide))), (fun h => c4 (bit_ne h (by decide))), (fun _ => rfl), (fun h => c6 (bit_ne h (by decide))), (fun h => c7 (bit_ne h (by decide))), (fun h => c8 (bit_ne h (by decide))), (fun h => c9 (bit_ne h (by decide))), (fun h => c10 (bit_ne h (by decide))), (fun h => c11 (bit_ne h (by decide)))⟩
          · obtain rfl := Option.some.inj ho
            have hsz : 6 < listed.size := by rw [hls]; decide
            have hdep5 : listed.getD 5 false = true := hall ⟨5, .data⟩ (by simp) (by rfl)
            obtain rfl := c5 hdep5
            refine inv_call 28 #[.agg (rc (.slice (some ⟨gp, 0, none⟩) 56 56) 7 C0 (.slice ps sl cs))] _ rfl rfl (by kernel_rfl) (hro5 w hbW) ?_
            rintro e w' ⟨sp, cap, rfl, ow, hb⟩
            have hbw : Below B w5 w' := hbW.trans (hb.mono (hsB hbW))
            refine ⟨_, rfl, ?_⟩
            exact ⟨s15, s16, s77, s78, s79, s80, s81, s82, (.agg (rc (.slice (some ⟨gp, 0, none⟩) 56 56) 7 C0 (.slice ps sl cs))), (.tuple #[.slice sp (95 + sl) cap, .int .i64 0]), s85, s86, rfl, hbw, (fun h => c0 (bit_ne h (by decide))), (fun h => c1 (bit_ne h (by decide))), (fun h => c2 (bit_ne h (by decide))), (fun h => c3 (bit_ne h (by decide))), (fun h => c4 (bit_ne h (by decide))), (fun h => c5 (bit_ne h (by decide))), (fun _ => ⟨sp, cap, rfl, ow.mono (hsB hbW)⟩), (fun h => (c7 (bit_ne h (by decide))).below hb), (fun h => (c8 (bit_ne h (by decide))).below hb), (fun h => c9 (bit_ne h (by decide))), (fun h => (c10 (bit_ne h (by decide))).below hb), (fun h => c11 (bit_ne h (by decide)))⟩
          · obtain rfl := Option.some.inj ho
            have hsz : 7 < listed.size := by rw [hls]; decide
            have hdep6 : listed.getD 6 false = true := hall ⟨6, .data⟩ (by simp) (by rfl)
            obtain ⟨sp6, cap6, rfl, o6⟩ := c6 hdep6
            have hbw := hbW
            refine inv_val (w' := w) (.tuple #[.slice sp6 (95 + sl) cap6, .int .i64 0]) rfl rfl rfl ?_
            exact ⟨s15, s16, (.tuple #[.slice sp6 (95 + sl) cap6, .int .i64 0]), s78, s79, s80, s81, s82, s83, (.tuple #[.slice sp6 (95 + sl) cap6, .int .i64 0]), s85, s86, rfl, hbw, (fun h => c0 (bit_ne h (by decide))), (fun h => c1 (bit_ne h (by decide))), (fun h => c2 (bit_ne h (by decide))), (fun h => c3 (bit_ne h (by decide))), (fun h => c4 (bit_ne h (by decide))), (fun h => c5 (bit_ne h (by decide))), (fun h => c6 (bit_ne h (by decide))), (fun _ => ⟨sp6, cap6, rfl, o6⟩), (fun h => c8 (bit_ne h (by decide))), (fun h => c9 (bit_ne h (by decide))), (fun h => c10 (bit_ne h (by decide))), (fun h => c11 (bit_ne h (by decide)))⟩
          · obtain rfl := Option.some.inj ho
            have hsz : 8 < listed.size := by rw [hls]; decide
            have hdep7 : listed.getD 7 false = true := hall ⟨7, .data⟩ (by simp) (by rfl)
            obtain ⟨sp7, cap7, rfl, o7⟩ := c7 hdep7
            have hbw := hbW
            refine inv_val (w' := w) (.slice sp7 (95 + sl) cap7) rfl rfl rfl ?_
            exact ⟨s15, s16, (.tuple #[.slice sp7 (95 + sl) cap7, .int .i64 0]), s78, s79, s80, s81, s82, s83, s84, (.slice sp7 (95 + sl) cap7), s86, rfl, hbw, (fun h => c0 (bit_ne h (by decide))), (fun h => c1 (bit_ne h (by decide))), (fun h => c2 (bit_ne h (by decide))), (fun h => c3 (bit_ne h (by decide))), (fun h => c4 (bit_ne h (by decide))), (fun h => c5 (bit_ne h (by decide))), (fun h => c6 (bit_ne h (by decide))), (fun h => c7 (bit_ne h (by decide))), (fun _ => ⟨sp7, cap7, rfl, o7⟩), (fun h => c9 (bit_ne h (by decide))), (fun h => c10 (bit_ne h (by decide))), (fun h => c11 (bit_ne h (by decide)))⟩
          · obtain rfl := Option.some.inj ho
            have hsz : 9 < listed.size := by rw [hls]; decide
            have hdep7 : listed.getD 7 false = true := hall ⟨7, .data⟩ (by simp) (by rfl)
            obtain ⟨sp7, cap7, rfl, o7⟩ := c7 hdep7
            have hbw := hbW
            refine inv_val (w' := w) (.int .i64 0) rfl rfl rfl ?_
            exact ⟨s15, s16, (.tuple #[.slice sp7 (95 + sl) cap7, .int .i64 0]), s78, s79, s80, s81, s82, s83, s84, s85, (.int .i64 0), rfl, hbw, (fun h => c0 (bit_ne h (by decide))), (fun h => c1 (bit_ne h (by decide))), (fun h => c2 (bit_ne h (by decide))), (fun h => c3 (bit_ne h (by decide))), (fun h => c4 (bit_ne h (by decide))), (fun h => c5 (bit_ne h (by decide))), (fun h => c6 (bit_ne h (by decide))), (fun h => c7 (bit_ne h (by decide))), (fun h => c8 (bit_ne h (by decide))), (fun _ => rfl), (fun h => c10 (bit_ne h (by decide))), (fun h => c11 (bit_ne h (by decide)))⟩
          · obtain rfl := Option.some.inj ho
            have hsz : 10 < listed.size := by rw [hls]; decide
            have hdep8 : listed.getD 8 false = true := hall ⟨8, .data⟩ (by simp) (by rfl)
            obtain ⟨sp8, cap8, rfl, o8⟩ := c8 hdep8
            have hbw := hbW
            refine inv_val (w' := w) (.slice sp8 (95 + sl) cap8) rfl rfl rfl ?_
            exact ⟨(.slice sp8 (95 + sl) cap8), s16, s77, s78, s79, s80, s81, s82, s83, s84, (.slice sp8 (95 + sl) cap8), s86, rfl, hbw, (fun h => c0 (bit_ne h (by decide))), (fun h => c1 (bit_ne h (by decide))), (fun h => c2 (bit_ne h (by decide))), (fun h => c3 (bit_ne h (by decide))), (fun h => c4 (bit_ne h (by decide))), (fun h => c5 (bit_ne h (by decide))), (fun h => c6 (bit_ne h (by decide))), (fun h => c7 (bit_ne h (by decide))), (fun h => c8 (bit_ne h (by decide))), (fun h => c9 (bit_ne h (by decide))), (fun _ => ⟨sp8, cap8, rfl, o8⟩), (fun h => c11 (bit_ne h (by decide)))⟩
          · obtain rfl := Option.some.inj ho
            have hsz : 11 < listed.size := by rw [hls]; decide
            have hdep9 : listed.getD 9 false = true := hall ⟨9, .data⟩ (by simp) (by rfl)
            obtain rfl := c9 hdep9
            have hbw := hbW
            refine inv_val (w' := w) (.int .i64 0) rfl rfl rfl ?_
            exact ⟨s15, (.int .i64 0), s77, s78, s79, s80, s81, s82, s83, s84, s85, (.int .i64 0), rfl, hbw, (fun h => c0 (bit_ne h (by decide))), (fun h => c1 (bit_ne h (by decide))), (fun h => c2 (bit_ne h (by decide))), (fun h => c3 (bit_ne h (by decide))), (fun h => c4 (bit_ne h (by decide))), (fun h => c5 (bit_ne h (by decide))), (fun h => c6 (bit_ne h (by decide))), (fun h => c7 (bit_ne h (by decide))), (fun h => c8 (bit_ne h (by decide))), (fun h => c9 (bit_ne h (by decide))), (fun h => c10 (bit_ne h (by decide))), (fun _ => rfl)⟩
        · intro listed a w hall hJ
          obtain ⟨s15, s16, s77, s78, s79, s80, s81, s82, s83, s84, s85, s86, rfl, hbW, c0, c1, c2, c3, c4, c5, c6, c7, c8, c9, c10, c11⟩ := hJ
          obtain rfl := c0 (hall 0 (by decide))
          obtain rfl := c1 (hall 1 (by decide))
          obtain rfl := c2 (hall 2 (by decide))
          obtain rfl := c3 (hall 3 (by decide))
          obtain rfl := c4 (hall 4 (by decide))
          obtain rfl := c5 (hall 5 (by decide))
          obtain ⟨sp6, cap6, rfl, o6⟩ := c6 (hall 6 (by decide))
          obtain ⟨sp7, cap7, rfl, o7⟩ := c7 (hall 7 (by decide))
          obtain ⟨sp8, cap8, rfl, o8⟩ := c8 (hall 8 (by decide))
          obtain rfl := c9 (hall 9 (by decide))
          obtain ⟨sp10, cap10, rfl, o10⟩ := c10 (hall 10 (by decide))
          obtain rfl := c11 (hall 11 (by decide))
          have oC := o10
          have b6 := b5.trans (hbW.mono hwB)
          have oA6 := oA5.below hbW (Nat.le_of_eq hB)
          have oB6 := oB.below hbW (Nat.le_of_eq hB)
          rw [← hB] at oC
          clear c0 c1 c2 c3 c4 c5 c6 c7 c8 c9 c10 c11 o6 o7 o8 hbW hall
          generalize w = w6 at *
          obtain ⟨ga, ka, rfl, hca, hga⟩ : ∃ ga, ∃ _ : True, sA = some ⟨ga, 0, none⟩ ∧ 39 ≤ cA ∧ ga < w4.heap.size := by
            rcases oA.row with ⟨_, _, h, _⟩ | ⟨ga, cur, h1, h2, h3, h4⟩
            · rw [h] at hlA; exact absurd hlA (by decide)
            · exact ⟨ga, trivial, h1, by omega, h2.lt⟩
          obtain ⟨gb, kb, rfl, hcb, hgb, hgb2⟩ : ∃ gb, ∃ _ : True, sB = some ⟨gb, 0, none⟩ ∧ 2 + 32 * n ≤ cB ∧ gb < w5.heap.size ∧ w4.heap.size ≤ gb := by
            rcases oB.row with ⟨_, _, h, _⟩ | ⟨gb, cur, h1, h2, h3, h4⟩
            · rw [h] at hlB; exact absurd hlB (by simp; omega)
            · subst h1; exact ⟨gb, trivial, rfl, by omega, h2.lt, own_base oB⟩
          obtain ⟨gc, kc, rfl, hcc, hgc2⟩ : ∃ gc, ∃ _ : True, sp10 = some ⟨gc, 0, none⟩ ∧ 95 + sl ≤ cap10 ∧ w5.heap.size ≤ gc := by
            rcases oC.row with ⟨_, _, h, _⟩ | ⟨gc, cur, h1, h2, h3, h4⟩
            · rw [h] at hlR; exact absurd hlR (by simp; omega)
            · subst h1; exact ⟨gc, trivial, rfl, by omega, own_base oC⟩
          have z3 := rb.size
          have z4 := b4.size
          have z5 := b5.size
          clear ka kb kc hroot hro5 hin hinn hrg5 hbr p5 oA oB oA5 hb4 hb5 r0 r1 rb b4 b5
          have hlA2 : A.length ≤ 39 := by omega
          go_wp2
          go_loopw [17] (fun i wr => ∃ k : Nat, k ≤ 40 ∧ i = .int .i64 k ∧ Below w6.heap.size w6 wr) (fun i _ => 40 - (intOf i).toNat)
          case atStart => exact ⟨0, by omega, rfl, Below.refl _ _⟩
          case round =>
            obtain ⟨k, hk, rfl, hbr⟩ := hrel
            by_cases hk40 : k < 40
            · have hby := (oA6.bytes.below hbr).take k
              have hlk : (A.take k).length = k := by simp; omega
              have hpa := parse_any (A.take k) (some ⟨ga, 0, none⟩) cA wr (by omega) (by omega) hby (yA.take k)
              have hpt := hiM k
              rw [hlk] at hpa
              unfold Reads at hpa
              rw [hpf k (by omega)] at hpa
              have hiP : (Try.prog.info? 25).map (·.size) = some (nc (pNd (A.take k))).size := info25 hpt
              have hoP : (nc zeroN).size = (nc (pNd (A.take k))).size := by rw [nc_size (n := pNd (A.take k)) hpt]; rfl
              clear hby hlk hpf hqf hrf hiM hlA hlB hlR hF
              generalize pNd (A.take k) = P at *
              by_cases h39 : k < 39
              · rw [if_pos h39] at hpa
                have h39i : (k : Int) < 39 := by omega
                go_wp2_with (first | (go_at_call 14; (with_reducible refine Calls.mono hpa ?_); rintro e w8 ⟨rfl, hb8⟩) | (refine store_row0 25 (.tmp 18) (.tmp 130) (by rfl) (by rfl) (by rfl) w8.heap.size (nc P) (by rfl) (by rfl) 25 _ (Row.new _ _ _) hiP hoP (nc_one _) ?_))
                go_roundw
                case rel => exact ⟨k + 1, by omega, by go_num, hbr.trans ((below_setRow (hb8.alloc hb8.size _) hb8.size _).mono hbr.size)⟩
                case measure => simp [intOf]; omega
              · obtain rfl : k = 39 := by omega
                rw [if_neg h39] at hpa
                go_wp2_with (first | (go_at_call 14; (with_reducible refine Calls.mono hpa ?_); rintro e w8 ⟨rfl, hb8⟩) | (refine store_row0 25 (.tmp 18) (.tmp 130) (by rfl) (by rfl) (by rfl) w8.heap.size (nc P) (by rfl) (by rfl) 25 _ (Row.new _ _ _) hiP hoP (nc_one _) ?_))
                go_roundw
                case rel => exact ⟨40, by omega, by go_num, hbr.trans ((below_setRow (hb8.alloc hb8.size _) hb8.size _).mono hbr.size)⟩
                case measure => simp [intOf]
            · have h40i : (39 : Int) < (k : Int) := by omega
              have b7 := b6.trans (hbr.mono b6.size)
              have oA7 := oA6.below hbr (Nat.le_refl _)
              have oB7 := oB6.below hbr (Nat.le_refl _)
              have oC7 := oC.below hbr (Nat.le_refl _)
              clear oA6 oB6 oC hbr b6 hk hk40
              generalize wr = w7 at *
              go_wp2
              clear h40i
              go_loopw [20] (fun i wr => ∃ k : Nat, k ≤ 3 + 32 * n ∧ i = .int .i64 k ∧ Below w7.heap.size w7 wr) (fun i _ => 3 + 32 * n - (intOf i).toNat)
              case atStart => exact ⟨0, by omega, rfl, Below.refl _ _⟩
              case round =>
                obtain ⟨k, hk, rfl, hbr⟩ := hrel
                by_cases hkn : k < 3 + 32 * n
                · have hby := (oB7.bytes.below hbr).take k
                  have hlk : (Bq.take k).length = k := by simp; omega
                  have hpa := parseI_any (Bq.take k) (some ⟨gb, 0, none⟩) cB wr (by omega) (by omega) hby (yB.take k)
                  rw [hlk] at hpa
                  unfold ReadsI at hpa
                  rw [hqf k (by omega)] at hpa
                  clear hby hlk hpf hqf hrf hiM hlA hlB hlR hF
                  generalize qN (Bq.take k) = N1 at *
                  generalize qF (Bq.take k) = F1 at *
                  by_cases h39 : k < 2 + 32 * n
                  · rw [if_pos h39] at hpa
                    have h39i : (k : Int) < 2 + 32 * (n : Int) := by omega
                    go_wp2_with (go_at_call 18; (with_reducible refine Calls.mono hpa ?_); rintro e w8 ⟨s8, c8, rfl, _, _, hb8⟩)
                    go_roundw
                    case rel => exact ⟨k + 1, by omega, by go_num, hbr.trans (hb8.mono hbr.size)⟩
                    case measure => simp [intOf]; omega
                  · rw [if_neg h39] at hpa
                    have h39i : ¬ (k : Int) < 2 + 32 * (n : Int) := by omega
                    go_wp2_with (go_at_call 18; (with_reducible refine Calls.mono hpa ?_); rintro e w8 ⟨s8, c8, rfl, _, _, hb8⟩)
                    go_roundw
                    case rel => exact ⟨k + 1, by omega, by go_num, hbr.trans (hb8.mono hbr.size)⟩
                    case measure => simp [intOf]; omega
                · have b8 := b7.trans (hbr.mono b7.size)
                  have oA8 := oA7.below hbr (Nat.le_refl _)
                  have oB8 := oB7.below hbr (Nat.le_refl _)
                  have oC8 := oC7.below hbr (Nat.le_refl _)
                  have h40i : 2 + 32 * (n : Int) < (k : Int) := by omega
                  clear oA7 oB7 oC7 hbr b7 hk hkn
                  generalize wr = w8 at *
                  go_wp2
                  clear h40i
                  go_loopw [23] (fun i wr => ∃ k : Nat, k ≤ 96 + sl ∧ i = .int .i64 k ∧ Below w8.heap.size w8 wr) (fun i _ => 96 + sl - (intOf i).toNat)
                  case atStart => exact ⟨0, by omega, rfl, Below.refl _ _⟩
                  case round =>
                    obtain ⟨k, hk, rfl, hbr⟩ := hrel
                    by_cases hkn : k < 96 + sl
                    · have hby := (oC8.bytes.below hbr).take k
                      have hlk : (R.take k).length = k := by simp; omega
                      have hpa := proot_any (R.take k) gc 0 cap10 wr (by omega) (by omega) hby (yR.take k) (hhf k)
                      rw [hlk] at hpa
                      unfold ReadsR at hpa
                      rw [hrf k (by omega)] at hpa
                      clear hby hlk hpf hqf hrf hiM hlA hlB hlR hF
                      by_cases h39 : k < 95 + sl
                      · rw [if_pos h39] at hpa
                        have h39i : (k : Int) < 95 + (sl : Int) := by omega
                        go_wp2_with (first | (go_at_call 29; (with_reducible refine Calls.mono hpa ?_); rintro e w9 ⟨RC, rfl, hRs, hRo, hb9⟩; have hRl : zrc.size = RC.size := by rw [hRs]; exact zrc_size) | (refine store_row0 70 (.tmp 24) (.tmp 170) (by rfl) (by rfl) (by rfl) w9.heap.size RC (by rfl) (by rfl) 70 zrc (Row.new _ _ _) (info70 hRs) hRl hRo ?_))
                        go_roundw
                        case rel => exact ⟨k + 1, by omega, by go_num, hbr.trans ((below_setRow (hb9.alloc hb9.size _) hb9.size _).mono hbr.size)⟩
                        case measure => simp [intOf]; omega
                      · rw [if_neg h39] at hpa
                        have h39i : ¬ (k : Int) < 95 + (sl : Int) := by omega
                        go_wp2_with (first | (go_at_call 29; (with_reducible refine Calls.mono hpa ?_); rintro e w9 ⟨RC, rfl, hRs, hRo, hb9⟩; have hRl : zrc.size = RC.size := by rw [hRs]; exact zrc_size) | (refine store_row0 70 (.tmp 24) (.tmp 170) (by rfl) (by rfl) (by rfl) w9.heap.size RC (by rfl) (by rfl) 70 zrc (Row.new _ _ _) (info70 hRs) hRl hRo ?_))
                        go_roundw
                        case rel => exact ⟨k + 1, by omega, by go_num, hbr.trans ((below_setRow (hb9.alloc hb9.size _) hb9.size _).mono hbr.size)⟩
                        case measure => simp [intOf]; omega
                    · have b9 := b8.trans (hbr.mono b8.size)
                      have oA9 := oA8.below hbr (Nat.le_refl _)
                      have oB9 := oB8.below hbr (Nat.le_refl _)
                      have oC9 := oC8.below hbr (Nat.le_refl _)
                      have h40i : 95 + (sl : Int) < (k : Int) := by omega
                      clear oA8 oB8 oC8 hbr b8 hk hkn
                      generalize wr = w9 at *
                      have lA1 : (A ++ [0]).length = 40 := by simp; omega
                      have lB1 : (Bq ++ [0]).length = 3 + 32 * n := by simp; omega
                      have lR1 : (R ++ [0]).length = 96 + sl := by simp; omega
                      have hiM1 := pNd_len (A ++ [0])
                      have hiP : (Try.prog.info? 25).map (·.size) = some (nc (pNd (A ++ [0]))).size := info25 hiM1
                      have hoP : (nc zeroN).size = (nc (pNd (A ++ [0]))).size := by rw [nc_size (n := pNd (A ++ [0])) hiM1]; rfl
                      have y0 : By [0] := by_one (by omega)
                      have hpa := fun wx sp cp (h1 : 40 ≤ cp) (h : Bytes wx sp (A ++ [0])) => parse_any (A ++ [0]) sp cp wx (by omega) (by omega) h (yA.append y0)
                      have hpb := fun wx sp cp (h1 : 3 + 32 * n ≤ cp) (h : Bytes wx sp (Bq ++ [0])) => parseI_any (Bq ++ [0]) sp cp wx (by omega) (by omega) h (yB.append y0)
                      have hpc := fun wx p o cp (h1 : 96 + sl ≤ cp) (h : Bytes wx (some ⟨p, o, none⟩) (R ++ [0])) => proot_any (R ++ [0]) p o cp wx (by omega) (by omega) h (yR.append y0) hhm
                      unfold Reads at hpa
                      unfold ReadsI at hpb
                      unfold ReadsR at hpc
                      rw [lA1, hpm] at hpa
                      rw [lB1, hqm] at hpb
                      rw [lR1, hrm] at hpc
                      have hA7 : A.length + 1 ≤ 70368744177664 := by omega
                      have hB7 : Bq.length + 1 ≤ 70368744177664 := by omega
                      have hR7 : R.length + 1 ≤ 70368744177664 := by omega
                      clear hpf hqf hrf hiM hhf hhm hpm hqm hrm yA yB yR y0 hlA2 hlA hlB hlR hF hiM1
                      generalize pNd (A ++ [0]) = PA at *
                      generalize qN (Bq ++ [0]) = NB at *
                      generalize qF (Bq ++ [0]) = FB at *
                      obtain ⟨hA3, hA4⟩ := own_in oA9
                      obtain ⟨hB3, hB4⟩ := own_in oB9
                      obtain ⟨hC3, hC4⟩ := own_in oC9
                      have z9 := (Below.refl w9.heap.size w9).alloc (Nat.le_refl _) (.cells (v8 [0]) 5)
                      have zA : w3.heap.size ≤ (w9.alloc (.cells (v8 [0]) 5)).heap.size := by have := z9.size; omega
                      go_upto_region 36 with (first | (at_builtin; (refine append8g (.tmp 180) (.tmp 181) 27 5 (by rfl) (by rfl) w3.heap.size Try.underlying27 info5 (.slice (some ⟨ga, 0, none⟩) 39 cA) A (by rfl) ?ho (some ⟨w9.heap.size, 0, none⟩) 1 1 [0] (by rfl) (by rfl) ?hnil ?hby ?hlen ?hB ?_; (case ho => exact oA9.alloc _); (case hnil => exact fun h => by cases h); (case hby => exact bytes_lit w9 [0]); (case hlen => exact hA7); (case hB => exact zA); rw [lA1]; intro sp1 cap1 w10 o1 b10 g10)) | (go_at_call 14; (with_reducible refine Calls.mono (hpa _ _ _ ?hc ?hb) ?_); (case hc => exact own_cap o1 (by omega)); (case hb => exact o1.bytes); rintro e w11 ⟨rfl, hb11⟩) | (refine store_row0 25 (.tmp 26) (.tmp 184) (by rfl) (by rfl) (by rfl) w11.heap.size (nc PA) (by rfl) (by rfl) 25 _ (Row.new _ _ _) hiP hoP (nc_one _) ?_))
                      have bS := below_setRow (hb11.alloc hb11.size (.cells (nc zeroN) 25)) hb11.size (nc PA)
                      have oB11 := (own_kept (oB9.alloc _) g10 (by simp [Value.ownBlock]; omega)).below bS (Nat.le_refl _)
                      have oC11 := (own_kept (oC9.alloc _) g10 (by simp [Value.ownBlock]; omega)).below bS (Nat.le_refl _)
                      have c10 := (b9.trans (z9.mono b9.size)).trans (b10.mono z3)
                      have c11 := c10.trans (bS.mono c10.size)
                      clear oA9 oB9 oC9 o1 b10 g10 hb11 c10 bS z9 zA hA3 hA4 hB3 hB4 hC3 hC4 b9 hiP hoP hpa lA1
                      change Code.wp _ _ _ _ ((w11.alloc (.cells (nc zeroN) 25)).setRow w11.heap.size (nc PA))
                      generalize (w11.alloc (.cells (nc zeroN) 25)).setRow w11.heap.size (nc PA) = w12 at *
                      obtain ⟨hB3, hB4⟩ := own_in oB11
                      obtain ⟨hC3, hC4⟩ := own_in oC11
                      have z9 := (Below.refl w12.heap.size w12).alloc (Nat.le_refl _) (.cells (v8 [0]) 5)
                      have zA : w4.heap.size ≤ (w12.alloc (.cells (v8 [0]) 5)).heap.size := by have := z9.size; omega
                      go_upto_region 37 with (first | (at_builtin; (refine append8g (.tmp 187) (.tmp 188) 27 5 (by rfl) (by rfl) w4.heap.size Try.underlying27 info5 (.slice (some ⟨gb, 0, none⟩) (2 + 32 * n) cB) Bq (by rfl) ?ho (some ⟨w12.heap.size, 0, none⟩) 1 1 [0] (by rfl) (by rfl) ?hnil ?hby ?hlen ?hB ?_; (case ho => exact oB11.alloc _); (case hnil => exact fun h => by cases h); (case hby => exact bytes_lit w12 [0]); (case hlen => exact hB7); (case hB => exact zA); rw [lB1]; intro sp1 cap1 w13 o1 b13 g13)) | (go_at_call 18; (with_reducible refine Calls.mono (hpb _ _ _ ?hc ?hb) ?_); (case hc => exact own_cap o1 (by omega)); (case hb => exact o1.bytes); rintro e w14 ⟨s14, c14, rfl, _, _, hb14⟩))
                      have oC14 := (own_kept (oC11.alloc _) g13 (by simp [Value.ownBlock]; omega)).below hb14 (Nat.le_refl _)
                      have c13 := (c11.trans (z9.mono c11.size)).trans (b13.mono z4)
                      have c14' := c13.trans (hb14.mono c13.size)
                      clear oB11 oC11 o1 b13 g13 hb14 c13 z9 zA hB3 hB4 hC3 hC4 c11 hpb lB1
                      obtain ⟨hC3, hC4⟩ := own_in oC14
                      have z9 := (Below.refl w14.heap.size w14).alloc (Nat.le_refl _) (.cells (v8 [0]) 5)
                      have zA : w5.heap.size ≤ (w14.alloc (.cells (v8 [0]) 5)).heap.size := by have := z9.size; omega
                      go_upto_region 38 with (first | (at_builtin; (refine append8g (.tmp 194) (.tmp 195) 27 5 (by rfl) (by rfl) w5.heap.size Try.underlying27 info5 (.slice (some ⟨gc, 0, none⟩) (95 + sl) cap10) R (by rfl) ?ho (some ⟨w14.heap.size, 0, none⟩) 1 1 [0] (by rfl) (by rfl) ?hnil ?hby ?hlen ?hB ?_; (case ho => exact oC14.alloc _); (case hnil => exact fun h => by cases h); (case hby => exact bytes_lit w14 [0]); (case hlen => exact hR7); (case hB => exact zA); rw [lR1]; intro sp1 cap1 w15 o1 b15 g15; obtain ⟨gd, rfl, hcd⟩ := own_at o1 (by omega))) | (go_at_call 29; (with_reducible refine Calls.mono (hpc _ _ _ _ ?hc ?hb) ?_); (case hc => exact hcd); (case hb => exact o1.bytes); rintro e w16 ⟨RC, rfl, hRs, hRo, hb16⟩; have hRl : zrc.size = RC.size := by rw [hRs]; exact zrc_size) | (refine store_row0 70 (.tmp 30) (.tmp 198) (by rfl) (by rfl) (by rfl) w16.heap.size RC (by rfl) (by rfl) 70 zrc (Row.new _ _ _) (info70 hRs) hRl hRo ?_))
                      have bS := below_setRow (hb16.alloc hb16.size (.cells zrc 70)) hb16.size RC
                      have c15 := (c14'.trans (z9.mono c14'.size)).trans (b15.mono z5)
                      have c16 := c15.trans (bS.mono c15.size)
                      change Code.wp _ _ _ _ ((w16.alloc (.cells zrc 70)).setRow w16.heap.size RC)
                      generalize (w16.alloc (.cells zrc 70)).setRow w16.heap.size RC = w17 at c16 ⊢
                      clear oC14 o1 b15 g15 hb16 c15 bS z9 zA hC3 hC4 c14' hpc lR1 hRl hRo hRs
                      go_wp2
                      go_ret
                      exact ⟨rfl, c16⟩
      · go_upto_region 12 with fail
        have eM := errN_cut (s := s) (t := zer 32) h0s h1s (fun _ => rfl)
        have tM : (⟨1, s, lvl s, zer 32⟩ : Nd).top.length = 32 := rfl
        have yM : By (⟨1, s, lvl s, zer 32⟩ : Nd).top := fun x hx => by simp [zer] at hx; omega
        generalize (⟨1, s, lvl s, zer 32⟩ : Nd) = M at *
        generalize wr = w3 at *
        clear c1 hs0
        have hpe := pNd_enc eM tM yM
        have hin := fun wx => inode_any M wx tM
        have hlA := encN_len tM
        have yA := by_encN eM yM
        have hi25 : (Try.prog.info? 25).map (·.size) = some (nc M).size := info25 tM
        rw [eM, outN_ok eM] at hin
        unfold Gives at hin
        have hpf := pErr_front hpe.2
        have hpm := pErr_more hpe.2 0
        have hiM := fun k => pNd_len ((encN M).take k)
        generalize encN M = A at *
        rw [hlA] at hin
        have hinn := fun wx (h : Below w.heap.size w wx) => inner_any F n (some ⟨bf, of, none⟩) cf wx hF (by omega) (hf.below h)
        have heI : errI n = 0 := by unfold errI; rw [if_neg h0, if_neg (by omega)]
        have hoI : outI F n = [110, (n : Int)] ++ F := by unfold outI; rw [if_pos heI]
        have hqf := qErr_front hF (show 1 ≤ n by omega) (show n ≤ 8 by omega)
        have hqm := qErr_more hF (show 1 ≤ n by omega) (show n ≤ 8 by omega) 0
        have hlB : ([110, (n : Int)] ++ F : List Int).length = 2 + 32 * n := by simp [hF]; omega
        have yB : By ([110, (n : Int)] ++ F) := By.append (fun x hx => by simp only [List.mem_cons, List.not_mem_nil, or_false] at hx; rcases hx with rfl | rfl <;> omega) yf
        rw [heI, hoI] at hinn
        unfold Gives at hinn
        generalize [110, (n : Int)] ++ F = Bq at *
        rw [hlB] at hinn
        have hroot := fun wx (h : Below w.heap.size w wx) (hx : Bytes wx (some ⟨gp, 0, none⟩) pub) => root_any pub C0 sig 7 (some ⟨gp, 0, none⟩) ps 56 cs wx hp hC0 (by omega) (by decide) (by decide) hx (hs.below h)
        have hlR := encR_len (sig := sig) (ver := 7) hp hC0
        have yR := by_encR yp yC0 ys
        have hrf := rErr_front hp hC0 (show sig.length ≤ 5000 by omega)
        have hrm := rErr_more hp hC0 (show sig.length ≤ 5000 by omega) 0
        have hhf := head_front hp hC0 (show sig.length ≤ 5000 by omega)
        have hhm := head_more hp hC0 (show sig.length ≤ 5000 by omega) 0
        unfold Gives at hroot
        generalize encR pub 7 C0 sig = R at *
        rw [hsl] at hlR hroot hrf
        rw [hlR] at hroot
        clear heI hoI hpe eM yM
        go_upto_region 14 with (first | (refine wpList_load_row (by rfl) 25 (.tmp 9) (by rfl) g (by rfl) 25 (nc M) (0, 0) _ r1.row Try.underlying25 rfl hi25 ?_) | (go_at_call 11; (with_reducible refine Calls.mono (hin _) ?_); rintro e w4 ⟨sA, cA, rfl, oA, hb4⟩; have b4 := rb.trans (hb4.mono rb.size)) | (go_at_call 16; (with_reducible refine Calls.mono (hinn _ b4) ?_); rintro e w5 ⟨sB, cB, rfl, oB, hb5⟩; have b5 := b4.trans (hb5.mono b4.size)))
        have p5 := (r0.below hb4 r0.lt).below hb5 (by have := hb4.size; have := r0.lt; omega)
        have oA5 := oA.below hb5 (Nat.le_refl _)
        have hbr := built_rc (some ⟨gp, 0, none⟩) ps 56 56 sl cs 7 C0 hC0
        obtain ⟨B, hB⟩ : ∃ B, w5.heap.size = B := ⟨_, rfl⟩
        have hsB : ∀ {w : World}, Below B w5 w → B ≤ w.heap.size := fun h => by have := h.size; omega
        have hwB : w.heap.size ≤ B := by have := b5.size; omega
        have hrg5 : ∀ wx, Below B w5 wx → wx.rangeAt bf of (v8 C0).toList := fun wx h => hrgF wx (b5.trans (h.mono hwB))
        have hro5 := fun wx (h : Below B w5 wx) => hroot wx (b5.trans (h.mono hwB)) ((p5.below h (by rw [← hB]; exact p5.lt)).bytes)
        refine region_invFA  (by kernel_rfl) (by kernel_rfl) (fun a0 listed a w => ∃ s15 s16 s77 s78 s79 s80 s81 s82 s83 s84 s85 s86, a = (Act.put (Act.put (Act.put (Act.put (Act.put (Act.put (Act.put (Act.put (Act.put (Act.put (Act.put (Act.put a0 (some 15) s15) (some 16) s16) (some 77) s77) (some 78) s78) (some 79) s79) (some 80) s80) (some 81) s81) (some 82) s82) (some 83) s83) (some 84) s84) (some 85) s85) (some 86) s86) ∧ Below B w5 w ∧ (listed.getD 0 false = true → s78 = .slice (some ⟨gp, 0, none⟩) 56 56) ∧ (listed.getD 1 false = true → s79 = .slice (some ⟨bf, of, none⟩) n cf) ∧ (listed.getD 2 false = true → s80 = .pointer (some ⟨bf, of, none⟩)) ∧ (listed.getD 3 false = true → s81 = .agg (v8 C0)) ∧ (listed.getD 4 false = true → s82 = .slice ps sl cs) ∧ (listed.getD 5 false = true → s83 = .agg (rc (.slice (some ⟨gp, 0, none⟩) 56 56) 7 C0 (.slice ps sl cs))) ∧ (listed.getD 6 false = true → TupS w B s84 (95 + sl) R) ∧ (listed.getD 7 false = true → TupS w B s77 (95 + sl) R) ∧ (listed.getD 8 false = true → OwnS w B s85 (95 + sl) R) ∧ (listed.getD 9 false = true → s86 = .int .i64 0) ∧ (listed.getD 10 false = true → OwnS w B s15 (95 + sl) R) ∧ (listed.getD 11 false = true → s16 = .int .i64 0)) ?_ ?_ ?_
        all_goals simp only [Act.put, List.setIfInBounds_toArray, List.set_cons_succ, List.set_cons_zero]
        · exact ⟨_, _, _, _, _, _, _, _, _, _, _, _, rfl, (Below.refl B _).drew, (fun h => absurd h (by rw [getD_replicate_false]; decide)), (fun h => absurd h (by rw [getD_replicate_false]; decide)), (fun h => absurd h (by rw [getD_replicate_false]; decide)), (fun h => absurd h (by rw [getD_replicate_false]; decide)), (fun h => absurd h (by rw [getD_replicate_false]; decide)), (fun h => absurd h (by rw [getD_replicate_false]; decide)), (fun h => absurd h (by rw [getD_replicate_false]; decide)), (fun h => absurd h (by rw [getD_replicate_false]; decide)), (fun h => absurd h (by rw [getD_replicate_false]; decide)), (fun h => absurd h (by rw [getD_replicate_false]; decide)), (fun h => absurd h (by rw [getD_replicate_false]; decide)), (fun h => absurd h (by rw [getD_replicate_false]; decide))⟩
        · intro listed a w i o hls hJ hin ho hi hall hcl
          obtain ⟨s15, s16, s77, s78, s79, s80, s81, s82, s83, s84, s85, s86, rfl, hbW, c0, c1, c2, c3, c4, c5, c6, c7, c8, c9, c10, c11⟩ := hJ
          replace hin : i < 12 := hin
          rcases (by omega : i = 0 ∨ i = 1 ∨ i = 2 ∨ i = 3 ∨ i = 4 ∨ i = 5 ∨ i = 6 ∨ i = 7 ∨ i = 8 ∨ i = 9 ∨ i = 10 ∨ i = 11) with rfl | rfl | rfl | rfl | rfl | rfl | rfl | rfl | rfl | rfl | rfl | rfl
          · obtain rfl := Option.some.inj ho
            have hsz : 0 < listed.size := by rw [hls]; decide
            have hbw := hbW
            refine inv_val (w' := w) (.slice (some ⟨gp, 0, none⟩) 56 56) rfl rfl (by kernel_rfl) ?_
            exact ⟨s15, s16, s77, (.slice (some ⟨gp, 0, none⟩) 56 56), s79, s80, s81, s82, s83, s84, s85, s86, rfl, hbw, (fun _ => rfl), (fun h => c1 (bit_ne h (by decide))), (fun h => c2 (bit_ne h (by decide))), (fun h => c3 (bit_ne h (by decide))), (fun h => c4 (bit_ne h (by decide))), (fun h => c5 (bit_ne h (by decide))), (fun h => c6 (bit_ne h (by decide))), (fun h => c7 (bit_ne h (by decide))), (fun h => c8 (bit_ne h (by decide))), (fun h => c9 (bit_ne h (by decide))), (fun h => c10 (bit_ne h (by decide))), (fun h => c11 (bit_ne h (by decide)))⟩
          · obtain rfl := Option.some.inj ho
            have hsz : 1 < listed.size := by rw [hls]; decide
            have hbw := hbW
            refine inv_val (w' := w) (.slice (some ⟨bf, of, none⟩) n cf) rfl rfl rfl ?_
            exact ⟨s15, s16, s77, s78, (.slice (some ⟨bf, of, none⟩) n cf), s80, s81, s82, s83, s84, s85, s86, rfl, hbw, (fun h => c0 (bit_ne h (by decide))), (fun _ => rfl), (fun h => c2 (bit_ne h (by decide))), (fun h => c3 (bit_ne h (by decide))), (fun h => c4 (bit_ne h (by decide))), (fun h => c5 (bit_ne h (by decide))), (fun h => c6 (bit_ne h (by decide))), (fun h => c7 (bit_ne h (by decide))), (fun h => c8 (bit_ne h (by decide))), (fun h => c9 (bit_ne h (by decide))), (fun h => c10 (bit_ne h (by decide))), (fun h => c11 (bit_ne h (by decide)))⟩
          · obtain rfl := Option.some.inj ho
            have hsz : 2 < listed.size := by rw [hls]; decide
            have hdep1 : listed.getD 1 false = true := hall ⟨1, .data⟩ (by simp) (by rfl)
            obtain rfl := c1 hdep1
            have hbw := hbW
            refine inv_val (w' := w) (.pointer (some ⟨bf, of, none⟩)) rfl rfl (by go_simp) ?_
            exact ⟨s15, s16, s77, s78, (.slice (some ⟨bf, of, none⟩) n cf), (.pointer (some ⟨bf, of, none⟩)), s81, s82, s83, s84, s85, s86, rfl, hbw, (fun h => c0 (bit_ne h (by decide))), (fun h => c1 (bit_ne h (by decide))), (fun _ => rfl), (fun h => c3 (bit_ne h (by decide))), (fun h => c4 (bit_ne h (by decide))), (fun h => c5 (bit_ne h (by decide))), (fun h => c6 (bit_ne h (by decide))), (fun h => c7 (bit_ne h (by decide))), (fun h => c8 (bit_ne h (by decide))), (fun h => c9 (bit_ne h (by decide))), (fun h => c10 (bit_ne h (by decide))), (fun h => c11 (bit_ne h (by decide)))⟩
          · obtain rfl := Option.some.inj ho
            have hsz : 3 < listed.size := by rw [hls]; decide
            have hdep2 : listed.getD 2 false = true := hall ⟨2, .data⟩ (by simp) (by rfl)
            obtain rfl := c2 hdep2
            have hbw := hbW
            refine inv_val (w' := w) (.agg (v8 C0)) rfl rfl (by refine Eq.trans (exec_load_mid (P := Try.prog) 23 (.tmp 80) rfl bf of rfl (v8 C0).toList _ (hrg5 w hbW) Try.underlying23 rfl hi23c) (by simp)) ?_
            exact ⟨s15, s16, s77, s78, s79, (.pointer (some ⟨bf, of, none⟩)), (.agg (v8 C0)), s82, s83, s84, s85, s86, rfl, hbw, (fun h => c0 (bit_ne h (by decide))), (fun h => c1 (bit_ne h (by decide))), (fun h => c2 (bit_ne h (by decide))), (fun _ => rfl), (fun h => c4 (bit_ne h (by decide))), (fun h => c5 (bit_ne h (by decide))), (fun h => c6 (bit_ne h (by decide))), (fun h => c7 (bit_ne h (by decide))), (fun h => c8 (bit_ne h (by decide))), (fun h => c9 (bit_ne h (by decide))), (fun h => c10 (bit_ne h (by decide))), (fun h => c11 (bit_ne h (by decide)))⟩
          · obtain rfl := Option.some.inj ho
            have hsz : 4 < listed.size := by rw [hls]; decide
            have hbw := hbW
            refine inv_val (w' := w) (.slice ps sl cs) rfl rfl rfl ?_
            exact ⟨s15, s16, s77, s78, s79, s80, s81, (.slice ps sl cs), s83, s84, s85, s86, rfl, hbw, (fun h => c0 (bit_ne h (by decide))), (fun h => c1 (bit_ne h (by decide))), (fun h => c2 (bit_ne h (by decide))), (fun h => c3 (bit_ne h (by decide))), (fun _ => rfl), (fun h => c5 (bit_ne h (by decide))), (fun h => c6 (bit_ne h (by decide))), (fun h => c7 (bit_ne h (by decide))), (fun h => c8 (bit_ne h (by decide))), (fun h => c9 (bit_ne h (by decide))), (fun h => c10 (bit_ne h (by decide))), (fun h => c11 (bit_ne h (by decide)))⟩
          · obtain rfl := Option.some.inj ho
            have hsz : 5 < listed.size := by rw [hls]; decide
            have hdep0 : listed.getD 0 false = true := hall ⟨0, .data⟩ (by simp) (by rfl)
            obtain rfl := c0 hdep0
            have hdep3 : listed.getD 3 false = true := hall ⟨3, .data⟩ (by simp) (by rfl)
            obtain rfl := c3 hdep3
            have hdep4 : listed.getD 4 false = true := hall ⟨4, .data⟩ (by simp) (by rfl)
            obtain rfl := c4 hdep4
            have hbw := hbW
            refine inv_val (w' := w) (.agg (rc (.slice (some ⟨gp, 0, none⟩) 56 56) 7 C0 (.slice ps sl cs))) rfl rfl (exec_build_rc (.tmp 78) (.const (.int .i64 7)) (.tmp 81) (.tmp 82) rfl 7 C0 rfl rfl rfl rfl hbr) ?_
            exact ⟨s15, s16, s77, (.slice (some ⟨gp, 0, none⟩) 56 56), s79, s80, (.agg (v8 C0)), (.slice ps sl cs), (.agg (rc (.slice (some ⟨gp, 0, none⟩) 56 56) 7 C0 (.slice ps sl cs))), s84, s85, s86, rfl, hbw, (fun h => c0 (bit_ne h (by decide))), (fun h => c1 (bit_ne h (by decide))), (fun h => c2 (bit_ne h (by decide))), (fun h => c3 (bit_ne h (by decide))), (fun h => c4 (bit_ne h (by decide))), (fun _ => rfl), (fun h => c6 (bit_ne h (by decide))), (fun h => c7 (bit_ne h (by decide))), (fun h => c8 (bit_ne h (by decide))), (fun h => c9 (bit_ne h (by decide))), (fun h => c10 (bit_ne h (by decide))), (fun h => c11 (bit_ne h (by decide)))⟩
          · obtain rfl := Option.some.inj ho
            have hsz : 6 < listed.size := by rw [hls]; decide
            have hdep5 : listed.getD 5 false = true := hall ⟨5, .data⟩ (by simp) (by rfl)
            obtain rfl := c5 hdep5
            refine inv_call 28 #[.agg (rc (.slice (some ⟨gp, 0, none⟩) 56 56) 7 C0 (.slice ps sl cs))] _ rfl rfl (by kernel_rfl) (hro5 w hbW) ?_
            rintro e w' ⟨sp, cap, rfl, ow, hb⟩
            have hbw : Below B w5 w' := hbW.trans (hb.mono (hsB hbW))
            refine ⟨_, rfl, ?_⟩
            exact ⟨s15, s16, s77, s78, s79, s80, s81, s82, (.agg (rc (.slice (some ⟨gp, 0, none⟩) 56 56) 7 C0 (.slice ps sl cs))), (.tuple #[.slice sp (95 + sl) cap, .int .i64 0]), s85, s86, rfl, hbw, (fun h => c0 (bit_ne h (by decide))), (fun h => c1 (bit_ne h (by decide))), (fun h => c2 (bit_ne h (by decide))), (fun h => c3 (bit_ne h (by decide))), (fun h => c4 (bit_ne h (by decide))), (fun h => c5 (bit_ne h (by decide))), (fun _ => ⟨sp, cap, rfl, ow.mono (hsB hbW)⟩), (fun h => (c7 (bit_ne h (by decide))).below hb), (fun h => (c8 (bit_ne h (by decide))).below hb), (fun h => c9 (bit_ne h (by decide))), (fun h => (c10 (bit_ne h (by decide))).below hb), (fun h => c11 (bit_ne h (by decide)))⟩
          · obtain rfl := Option.some.inj ho
            have hsz : 7 < listed.size := by rw [hls]; decide
            have hdep6 : listed.getD 6 false = true := hall ⟨6, .data⟩ (by simp) (by rfl)
            obtain ⟨sp6, cap6, rfl, o6⟩ := c6 hdep6
            have hbw := hbW
            refine inv_val (w' := w) (.tuple #[.slice sp6 (95 + sl) cap6, .int .i64 0]) rfl rfl rfl ?_
            exact ⟨s15, s16, (.tuple #[.slice sp6 (95 + sl) cap6, .int .i64 0]), s78, s79, s80, s81, s82, s83, (.tuple #[.slice sp6 (95 + sl) cap6, .int .i64 0]), s85, s86, rfl, hbw, (fun h => c0 (bit_ne h (by decide))), (fun h => c1 (bit_ne h (by decide))), (fun h => c2 (bit_ne h (by decide))), (fun h => c3 (bit_ne h (by decide))), (fun h => c4 (bit_ne h (by decide))), (fun h => c5 (bit_ne h (by decide))), (fun h => c6 (bit_ne h (by decide))), (fun _ => ⟨sp6, cap6, rfl, o6⟩), (fun h => c8 (bit_ne h (by decide))), (fun h => c9 (bit_ne h (by decide))), (fun h => c10 (bit_ne h (by decide))), (fun h => c11 (bit_ne h (by decide)))⟩
          · obtain rfl := Option.some.inj ho
            have hsz : 8 < listed.size := by rw [hls]; decide
            have hdep7 : listed.getD 7 false = true := hall ⟨7, .data⟩ (by simp) (by rfl)
            obtain ⟨sp7, cap7, rfl, o7⟩ := c7 hdep7
            have hbw := hbW
            refine inv_val (w' := w) (.slice sp7 (95 + sl) cap7) rfl rfl rfl ?_
            exact ⟨s15, s16, (.tuple #[.slice sp7 (95 + sl) cap7, .int .i64 0]), s78, s79, s80, s81, s82, s83, s84, (.slice sp7 (95 + sl) cap7), s86, rfl, hbw, (fun h => c0 (bit_ne h (by decide))), (fun h => c1 (bit_ne h (by decide))), (fun h => c2 (bit_ne h (by decide))), (fun h => c3 (bit_ne h (by decide))), (fun h => c4 (bit_ne h (by decide))), (fun h => c5 (bit_ne h (by decide))), (fun h => c6 (bit_ne h (by decide))), (fun h => c7 (bit_ne h (by decide))), (fun _ => ⟨sp7, cap7, rfl, o7⟩), (fun h => c9 (bit_ne h (by decide))), (fun h => c10 (bit_ne h (by decide))), (fun h => c11 (bit_ne h (by decide)))⟩
          · obtain rfl := Option.some.inj ho
            have hsz : 9 < listed.size := by rw [hls]; decide
            have hdep7 : listed.getD 7 false = true := hall ⟨7, .data⟩ (by simp) (by rfl)
            obtain ⟨sp7, cap7, rfl, o7⟩ := c7 hdep7
            have hbw := hbW
            refine inv_val (w' := w) (.int .i64 0) rfl rfl rfl ?_
            exact ⟨s15, s16, (.tuple #[.slice sp7 (95 + sl) cap7, .int .i64 0]), s78, s79, s80, s81, s82, s83, s84, s85, (.int .i64 0), rfl, hbw, (fun h => c0 (bit_ne h (by decide))), (fun h => c1 (bit_ne h (by decide))), (fun h => c2 (bit_ne h (by decide))), (fun h => c3 (bit_ne h (by decide))), (fun h => c4 (bit_ne h (by decide))), (fun h => c5 (bit_ne h (by decide))), (fun h => c6 (bit_ne h (by decide))), (fun h => c7 (bit_ne h (by decide))), (fun h => c8 (bit_ne h (by decide))), (fun _ => rfl), (fun h => c10 (bit_ne h (by decide))), (fun h => c11 (bit_ne h (by decide)))⟩
          · obtain rfl := Option.some.inj ho
            have hsz : 10 < listed.size := by rw [hls]; decide
            have hdep8 : listed.getD 8 false = true := hall ⟨8, .data⟩ (by simp) (by rfl)
            obtain ⟨sp8, cap8, rfl, o8⟩ := c8 hdep8
            have hbw := hbW
            refine inv_val (w' := w) (.slice sp8 (95 + sl) cap8) rfl rfl rfl ?_
            exact ⟨(.slice sp8 (95 + sl) cap8), s16, s77, s78, s79, s80, s81, s82, s83, s84, (.slice sp8 (95 + sl) cap8), s86, rfl, hbw, (fun h => c0 (bit_ne h (by decide))), (fun h => c1 (bit_ne h (by decide))), (fun h => c2 (bit_ne h (by decide))), (fun h => c3 (bit_ne h (by decide))), (fun h => c4 (bit_ne h (by decide))), (fun h => c5 (bit_ne h (by decide))), (fun h => c6 (bit_ne h (by decide))), (fun h => c7 (bit_ne h (by decide))), (fun h => c8 (bit_ne h (by decide))), (fun h => c9 (bit_ne h (by decide))), (fun _ => ⟨sp8, cap8, rfl, o8⟩), (fun h => c11 (bit_ne h (by decide)))⟩
          · obtain rfl := Option.some.inj ho
            have hsz : 11 < listed.size := by rw [hls]; decide
            have hdep9 : listed.getD 9 false = true := hall ⟨9, .data⟩ (by simp) (by rfl)
            obtain rfl := c9 hdep9
            have hbw := hbW
            refine inv_val (w' := w) (.int .i64 0) rfl rfl rfl ?_
            exact ⟨s15, (.int .i64 0), s77, s78, s79, s80, s81, s82, s83, s84, s85, (.int .i64 0), rfl, hbw, (fun h => c0 (bit_ne h (by decide))), (fun h => c1 (bit_ne h (by decide))), (fun h => c2 (bit_ne h (by decide))), (fun h => c3 (bit_ne h (by decide))), (fun h => c4 (bit_ne h (by decide))), (fun h => c5 (bit_ne h (by decide))), (fun h => c6 (bit_ne h (by decide))), (fun h => c7 (bit_ne h (by decide))), (fun h => c8 (bit_ne h (by decide))), (fun h => c9 (bit_ne h (by decide))), (fun h => c10 (bit_ne h (by decide))), (fun _ => rfl)⟩
        · intro listed a w hall hJ
          obtain ⟨s15, s16, s77, s78, s79, s80, s81, s82, s83, s84, s85, s86, rfl, hbW, c0, c1, c2, c3, c4, c5, c6, c7, c8, c9, c10, c11⟩ := hJ
          obtain rfl := c0 (hall 0 (by decide))
          obtain rfl := c1 (hall 1 (by decide))
          obtain rfl := c2 (hall 2 (by decide))
          obtain rfl := c3 (hall 3 (by decide))
          obtain rfl := c4 (hall 4 (by decide))
          obtain rfl := c5 (hall 5 (by decide))
          obtain ⟨sp6, cap6, rfl, o6⟩ := c6 (hall 6 (by decide))
          obtain ⟨sp7, cap7, rfl, o7⟩ := c7 (hall 7 (by decide))
          obtain ⟨sp8, cap8, rfl, o8⟩ := c8 (hall 8 (by decide))
          obtain rfl := c9 (hall 9 (by decide))
          obtain ⟨sp10, cap10, rfl, o10⟩ := c10 (hall 10 (by decide))
          obtain rfl := c11 (hall 11 (by decide))
          have oC := o10
          have b6 := b5.trans (hbW.mono hwB)
          have oA6 := oA5.below hbW (Nat.le_of_eq hB)
          have oB6 := oB.below hbW (Nat.le_of_eq hB)
          rw [← hB] at oC
          clear c0 c1 c2 c3 c4 c5 c6 c7 c8 c9 c10 c11 o6 o7 o8 hbW hall
          generalize w = w6 at *
          obtain ⟨ga, ka, rfl, hca, hga⟩ : ∃ ga, ∃ _ : True, sA = some ⟨ga, 0, none⟩ ∧ 39 ≤ cA ∧ ga < w4.heap.size := by
            rcases oA.row with ⟨_, _, h, _⟩ | ⟨ga, cur, h1, h2, h3, h4⟩
            · rw [h] at hlA; exact absurd hlA (by decide)
            · exact ⟨ga, trivial, h1, by omega, h2.lt⟩
          obtain ⟨gb, kb, rfl, hcb, hgb, hgb2⟩ : ∃ gb, ∃ _ : True, sB = some ⟨gb, 0, none⟩ ∧ 2 + 32 * n ≤ cB ∧ gb < w5.heap.size ∧ w4.heap.size ≤ gb := by
            rcases oB.row with ⟨_, _, h, _⟩ | ⟨gb, cur, h1, h2, h3, h4⟩
            · rw [h] at hlB; exact absurd hlB (by simp; omega)
            · subst h1; exact ⟨gb, trivial, rfl, by omega, h2.lt, own_base oB⟩
          obtain ⟨gc, kc, rfl, hcc, hgc2⟩ : ∃ gc, ∃ _ : True, sp10 = some ⟨gc, 0, none⟩ ∧ 95 + sl ≤ cap10 ∧ w5.heap.size ≤ gc := by
            rcases oC.row with ⟨_, _, h, _⟩ | ⟨gc, cur, h1, h2, h3, h4⟩
            · rw [h] at hlR; exact absurd hlR (by simp; omega)
            · subst h1; exact ⟨gc, trivial, rfl, by omega, own_base oC⟩
          have z3 := rb.size
          have z4 := b4.size
          have z5 := b5.size
          clear ka kb kc hroot hro5 hin hinn hrg5 hbr p5 oA oB oA5 hb4 hb5 r0 r1 rb b4 b5
          have hlA2 : A.length ≤ 39 := by omega
          go_wp2
          go_loopw [17] (fun i wr => ∃ k : Nat, k ≤ 40 ∧ i = .int .i64 k ∧ Below w6.heap.size w6 wr) (fun i _ => 40 - (intOf i).toNat)
          case atStart => exact ⟨0, by omega, rfl, Below.refl _ _⟩
          case round =>
            obtain ⟨k, hk, rfl, hbr⟩ := hrel
            by_cases hk40 : k < 40
            · have hby := (oA6.bytes.below hbr).take k
              have hlk : (A.take k).length = k := by simp; omega
              have hpa := parse_any (A.take k) (some ⟨ga, 0, none⟩) cA wr (by omega) (by omega) hby (yA.take k)
              have hpt := hiM k
              rw [hlk] at hpa
              unfold Reads at hpa
              rw [hpf k (by omega)] at hpa
              have hiP : (Try.prog.info? 25).map (·.size) = some (nc (pNd (A.take k))).size := info25 hpt
              have hoP : (nc zeroN).size = (nc (pNd (A.take k))).size := by rw [nc_size (n := pNd (A.take k)) hpt]; rfl
              clear hby hlk hpf hqf hrf hiM hlA hlB hlR hF
              generalize pNd (A.take k) = P at *
              by_cases h39 : k < 39
              · rw [if_pos h39] at hpa
                have h39i : (k : Int) < 39 := by omega
                go_wp2_with (first | (go_at_call 14; (with_reducible refine Calls.mono hpa ?_); rintro e w8 ⟨rfl, hb8⟩) | (refine store_row0 25 (.tmp 18) (.tmp 130) (by rfl) (by rfl) (by rfl) w8.heap.size (nc P) (by rfl) (by rfl) 25 _ (Row.new _ _ _) hiP hoP (nc_one _) ?_))
                go_roundw
                case rel => exact ⟨k + 1, by omega, by go_num, hbr.trans ((below_setRow (hb8.alloc hb8.size _) hb8.size _).mono hbr.size)⟩
                case measure => simp [intOf]; omega
              · obtain rfl : k = 39 := by omega
                rw [if_neg h39] at hpa
                go_wp2_with (first | (go_at_call 14; (with_reducible refine Calls.mono hpa ?_); rintro e w8 ⟨rfl, hb8⟩) | (refine store_row0 25 (.tmp 18) (.tmp 130) (by rfl) (by rfl) (by rfl) w8.heap.size (nc P) (by rfl) (by rfl) 25 _ (Row.new _ _ _) hiP hoP (nc_one _) ?_))
                go_roundw
                case rel => exact ⟨40, by omega, by go_num, hbr.trans ((below_setRow (hb8.alloc hb8.size _) hb8.size _).mono hbr.size)⟩
                case measure => simp [intOf]
            · have h40i : (39 : Int) < (k : Int) := by omega
              have b7 := b6.trans (hbr.mono b6.size)
              have oA7 := oA6.below hbr (Nat.le_refl _)
              have oB7 := oB6.below hbr (Nat.le_refl _)
              have oC7 := oC.below hbr (Nat.le_refl _)
              clear oA6 oB6 oC hbr b6 hk hk40
              generalize wr = w7 at *
              go_wp2
              clear h40i
              go_loopw [20] (fun i wr => ∃ k : Nat, k ≤ 3 + 32 * n ∧ i = .int .i64 k ∧ Below w7.heap.size w7 wr) (fun i _ => 3 + 32 * n - (intOf i).toNat)
              case atStart => exact ⟨0, by omega, rfl, Below.refl _ _⟩
              case round =>
                obtain ⟨k, hk, rfl, hbr⟩ := hrel
                by_cases hkn : k < 3 + 32 * n
                · have hby := (oB7.bytes.below hbr).take k
                  have hlk : (Bq.take k).length = k := by simp; omega
                  have hpa := parseI_any (Bq.take k) (some ⟨gb, 0, none⟩) cB wr (by omega) (by omega) hby (yB.take k)
                  rw [hlk] at hpa
                  unfold ReadsI at hpa
                  rw [hqf k (by omega)] at hpa
                  clear hby hlk hpf hqf hrf hiM hlA hlB hlR hF
                  generalize qN (Bq.take k) = N1 at *
                  generalize qF (Bq.take k) = F1 at *
                  by_cases h39 : k < 2 + 32 * n
                  · rw [if_pos h39] at hpa
                    have h39i : (k : Int) < 2 + 32 * (n : Int) := by omega
                    go_wp2_with (go_at_call 18; (with_reducible refine Calls.mono hpa ?_); rintro e w8 ⟨s8, c8, rfl, _, _, hb8⟩)
                    go_roundw
                    case rel => exact ⟨k + 1, by omega, by go_num, hbr.trans (hb8.mono hbr.size)⟩
                    case measure => simp [intOf]; omega
                  · rw [if_neg h39] at hpa
                    have h39i : ¬ (k : Int) < 2 + 32 * (n : Int) := by omega
                    go_wp2_with (go_at_call 18; (with_reducible refine Calls.mono hpa ?_); rintro e w8 ⟨s8, c8, rfl, _, _, hb8⟩)
                    go_roundw
                    case rel => exact ⟨k + 1, by omega, by go_num, hbr.trans (hb8.mono hbr.size)⟩
                    case measure => simp [intOf]; omega
                · have b8 := b7.trans (hbr.mono b7.size)
                  have oA8 := oA7.below hbr (Nat.le_refl _)
                  have oB8 := oB7.below hbr (Nat.le_refl _)
                  have oC8 := oC7.below hbr (Nat.le_refl _)
                  have h40i : 2 + 32 * (n : Int) < (k : Int) := by omega
                  clear oA7 oB7 oC7 hbr b7 hk hkn
                  generalize wr = w8 at *
                  go_wp2
                  clear h40i
                  go_loopw [23] (fun i wr => ∃ k : Nat, k ≤ 96 + sl ∧ i = .int .i64 k ∧ Below w8.heap.size w8 wr) (fun i _ => 96 + sl - (intOf i).toNat)
                  case atStart => exact ⟨0, by omega, rfl, Below.refl _ _⟩
                  case round =>
                    obtain ⟨k, hk, rfl, hbr⟩ := hrel
                    by_cases hkn : k < 96 + sl
                    · have hby := (oC8.bytes.below hbr).take k
                      have hlk : (R.take k).length = k := by simp; omega
                      have hpa := proot_any (R.take k) gc 0 cap10 wr (by omega) (by omega) hby (yR.take k) (hhf k)
                      rw [hlk] at hpa
                      unfold ReadsR at hpa
                      rw [hrf k (by omega)] at hpa
                      clear hby hlk hpf hqf hrf hiM hlA hlB hlR hF
                      by_cases h39 : k < 95 + sl
                      · rw [if_pos h39] at hpa
                        have h39i : (k : Int) < 95 + (sl : Int) := by omega
                        go_wp2_with (first | (go_at_call 29; (with_reducible refine Calls.mono hpa ?_); rintro e w9 ⟨RC, rfl, hRs, hRo, hb9⟩; have hRl : zrc.size = RC.size := by rw [hRs]; exact zrc_size) | (refine store_row0 70 (.tmp 24) (.tmp 170) (by rfl) (by rfl) (by rfl) w9.heap.size RC (by rfl) (by rfl) 70 zrc (Row.new _ _ _) (info70 hRs) hRl hRo ?_))
                        go_roundw
                        case rel => exact ⟨k + 1, by omega, by go_num, hbr.trans ((below_setRow (hb9.alloc hb9.size _) hb9.size _).mono hbr.size)⟩
                        case measure => simp [intOf]; omega
                      · rw [if_neg h39] at hpa
                        have h39i : ¬ (k : Int) < 95 + (sl : Int) := by omega
                        go_wp2_with (first | (go_at_call 29; (with_reducible refine Calls.mono hpa ?_); rintro e w9 ⟨RC, rfl, hRs, hRo, hb9⟩; have hRl : zrc.size = RC.size := by rw [hRs]; exact zrc_size) | (refine store_row0 70 (.tmp 24) (.tmp 170) (by rfl) (by rfl) (by rfl) w9.heap.size RC (by rfl) (by rfl) 70 zrc (Row.new _ _ _) (info70 hRs) hRl hRo ?_))
                        go_roundw
                        case rel => exact ⟨k + 1, by omega, by go_num, hbr.trans ((below_setRow (hb9.alloc hb9.size _) hb9.size _).mono hbr.size)⟩
                        case measure => simp [intOf]; omega
                    · have b9 := b8.trans (hbr.mono b8.size)
                      have oA9 := oA8.below hbr (Nat.le_refl _)
                      have oB9 := oB8.below hbr (Nat.le_refl _)
                      have oC9 := oC8.below hbr (Nat.le_refl _)
                      have h40i : 95 + (sl : Int) < (k : Int) := by omega
                      clear oA8 oB8 oC8 hbr b8 hk hkn
                      generalize wr = w9 at *
                      have lA1 : (A ++ [0]).length = 40 := by simp; omega
                      have lB1 : (Bq ++ [0]).length = 3 + 32 * n := by simp; omega
                      have lR1 : (R ++ [0]).length = 96 + sl := by simp; omega
                      have hiM1 := pNd_len (A ++ [0])
                      have hiP : (Try.prog.info? 25).map (·.size) = some (nc (pNd (A ++ [0]))).size := info25 hiM1
                      have hoP : (nc zeroN).size = (nc (pNd (A ++ [0]))).size := by rw [nc_size (n := pNd (A ++ [0])) hiM1]; rfl
                      have y0 : By [0] := by_one (by omega)
                      have hpa := fun wx sp cp (h1 : 40 ≤ cp) (h : Bytes wx sp (A ++ [0])) => parse_any (A ++ [0]) sp cp wx (by omega) (by omega) h (yA.append y0)
                      have hpb := fun wx sp cp (h1 : 3 + 32 * n ≤ cp) (h : Bytes wx sp (Bq ++ [0])) => parseI_any (Bq ++ [0]) sp cp wx (by omega) (by omega) h (yB.append y0)
                      have hpc := fun wx p o cp (h1 : 96 + sl ≤ cp) (h : Bytes wx (some ⟨p, o, none⟩) (R ++ [0])) => proot_any (R ++ [0]) p o cp wx (by omega) (by omega) h (yR.append y0) hhm
                      unfold Reads at hpa
                      unfold ReadsI at hpb
                      unfold ReadsR at hpc
                      rw [lA1, hpm] at hpa
                      rw [lB1, hqm] at hpb
                      rw [lR1, hrm] at hpc
                      have hA7 : A.length + 1 ≤ 70368744177664 := by omega
                      have hB7 : Bq.length + 1 ≤ 70368744177664 := by omega
                      have hR7 : R.length + 1 ≤ 70368744177664 := by omega
                      clear hpf hqf hrf hiM hhf hhm hpm hqm hrm yA yB yR y0 hlA2 hlA hlB hlR hF hiM1
                      generalize pNd (A ++ [0]) = PA at *
                      generalize qN (Bq ++ [0]) = NB at *
                      generalize qF (Bq ++ [0]) = FB at *
                      obtain ⟨hA3, hA4⟩ := own_in oA9
                      obtain ⟨hB3, hB4⟩ := own_in oB9
                      obtain ⟨hC3, hC4⟩ := own_in oC9
                      have z9 := (Below.refl w9.heap.size w9).alloc (Nat.le_refl _) (.cells (v8 [0]) 5)
                      have zA : w3.heap.size ≤ (w9.alloc (.cells (v8 [0]) 5)).heap.size := by have := z9.size; omega
                      go_upto_region 36 with (first | (at_builtin; (refine append8g (.tmp 180) (.tmp 181) 27 5 (by rfl) (by rfl) w3.heap.size Try.underlying27 info5 (.slice (some ⟨ga, 0, none⟩) 39 cA) A (by rfl) ?ho (some ⟨w9.heap.size, 0, none⟩) 1 1 [0] (by rfl) (by rfl) ?hnil ?hby ?hlen ?hB ?_; (case ho => exact oA9.alloc _); (case hnil => exact fun h => by cases h); (case hby => exact bytes_lit w9 [0]); (case hlen => exact hA7); (case hB => exact zA); rw [lA1]; intro sp1 cap1 w10 o1 b10 g10)) | (go_at_call 14; (with_reducible refine Calls.mono (hpa _ _ _ ?hc ?hb) ?_); (case hc => exact own_cap o1 (by omega)); (case hb => exact o1.bytes); rintro e w11 ⟨rfl, hb11⟩) | (refine store_row0 25 (.tmp 26) (.tmp 184) (by rfl) (by rfl) (by rfl) w11.heap.size (nc PA) (by rfl) (by rfl) 25 _ (Row.new _ _ _) hiP hoP (nc_one _) ?_))
                      have bS := below_setRow (hb11.alloc hb11.size (.cells (nc zeroN) 25)) hb11.size (nc PA)
                      have oB11 := (own_kept (oB9.alloc _) g10 (by simp [Value.ownBlock]; omega)).below bS (Nat.le_refl _)
                      have oC11 := (own_kept (oC9.alloc _) g10 (by simp [Value.ownBlock]; omega)).below bS (Nat.le_refl _)
                      have c10 := (b9.trans (z9.mono b9.size)).trans (b10.mono z3)
                      have c11 := c10.trans (bS.mono c10.size)
                      clear oA9 oB9 oC9 o1 b10 g10 hb11 c10 bS z9 zA hA3 hA4 hB3 hB4 hC3 hC4 b9 hiP hoP hpa lA1
                      change Code.wp _ _ _ _ ((w11.alloc (.cells (nc zeroN) 25)).setRow w11.heap.size (nc PA))
                      generalize (w11.alloc (.cells (nc zeroN) 25)).setRow w11.heap.size (nc PA) = w12 at *
                      obtain ⟨hB3, hB4⟩ := own_in oB11
                      obtain ⟨hC3, hC4⟩ := own_in oC11
                      have z9 := (Below.refl w12.heap.size w12).alloc (Nat.le_refl _) (.cells (v8 [0]) 5)
                      have zA : w4.heap.size ≤ (w12.alloc (.cells (v8 [0]) 5)).heap.size := by have := z9.size; omega
                      go_upto_region 37 with (first | (at_builtin; (refine append8g (.tmp 187) (.tmp 188) 27 5 (by rfl) (by rfl) w4.heap.size Try.underlying27 info5 (.slice (some ⟨gb, 0, none⟩) (2 + 32 * n) cB) Bq (by rfl) ?ho (some ⟨w12.heap.size, 0, none⟩) 1 1 [0] (by rfl) (by rfl) ?hnil ?hby ?hlen ?hB ?_; (case ho => exact oB11.alloc _); (case hnil => exact fun h => by cases h); (case hby => exact bytes_lit w12 [0]); (case hlen => exact hB7); (case hB => exact zA); rw [lB1]; intro sp1 cap1 w13 o1 b13 g13)) | (go_at_call 18; (with_reducible refine Calls.mono (hpb _ _ _ ?hc ?hb) ?_); (case hc => exact own_cap o1 (by omega)); (case hb => exact o1.bytes); rintro e w14 ⟨s14, c14, rfl, _, _, hb14⟩))
                      have oC14 := (own_kept (oC11.alloc _) g13 (by simp [Value.ownBlock]; omega)).below hb14 (Nat.le_refl _)
                      have c13 := (c11.trans (z9.mono c11.size)).trans (b13.mono z4)
                      have c14' := c13.trans (hb14.mono c13.size)
                      clear oB11 oC11 o1 b13 g13 hb14 c13 z9 zA hB3 hB4 hC3 hC4 c11 hpb lB1
                      obtain ⟨hC3, hC4⟩ := own_in oC14
                      have z9 := (Below.refl w14.heap.size w14).alloc (Nat.le_refl _) (.cells (v8 [0]) 5)
                      have zA : w5.heap.size ≤ (w14.alloc (.cells (v8 [0]) 5)).heap.size := by have := z9.size; omega
                      go_upto_region 38 with (first | (at_builtin; (refine append8g (.tmp 194) (.tmp 195) 27 5 (by rfl) (by rfl) w5.heap.size Try.underlying27 info5 (.slice (some ⟨gc, 0, none⟩) (95 + sl) cap10) R (by rfl) ?ho (some ⟨w14.heap.size, 0, none⟩) 1 1 [0] (by rfl) (by rfl) ?hnil ?hby ?hlen ?hB ?_; (case ho => exact oC14.alloc _); (case hnil => exact fun h => by cases h); (case hby => exact bytes_lit w14 [0]); (case hlen => exact hR7); (case hB => exact zA); rw [lR1]; intro sp1 cap1 w15 o1 b15 g15; obtain ⟨gd, rfl, hcd⟩ := own_at o1 (by omega))) | (go_at_call 29; (with_reducible refine Calls.mono (hpc _ _ _ _ ?hc ?hb) ?_); (case hc => exact hcd); (case hb => exact o1.bytes); rintro e w16 ⟨RC, rfl, hRs, hRo, hb16⟩; have hRl : zrc.size = RC.size := by rw [hRs]; exact zrc_size) | (refine store_row0 70 (.tmp 30) (.tmp 198) (by rfl) (by rfl) (by rfl) w16.heap.size RC (by rfl) (by rfl) 70 zrc (Row.new _ _ _) (info70 hRs) hRl hRo ?_))
                      have bS := below_setRow (hb16.alloc hb16.size (.cells zrc 70)) hb16.size RC
                      have c15 := (c14'.trans (z9.mono c14'.size)).trans (b15.mono z5)
                      have c16 := c15.trans (bS.mono c15.size)
                      change Code.wp _ _ _ _ ((w16.alloc (.cells zrc 70)).setRow w16.heap.size RC)
                      generalize (w16.alloc (.cells zrc 70)).setRow w16.heap.size RC = w17 at c16 ⊢
                      clear oC14 o1 b15 g15 hb16 c15 bS z9 zA hC3 hC4 c14' hpc lR1 hRl hRo hRs
                      go_wp2
                      go_ret
                      exact ⟨rfl, c16⟩
end Go.Proofs.Ytgcffdnbihfghaa
