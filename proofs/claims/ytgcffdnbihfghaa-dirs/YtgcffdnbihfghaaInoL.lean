/- inode, of the law: any inode, often such as may be. No old memory turns. -/
import Derived.Test.YtgcffdnbihfghaaParse
import Derived.Test.YtgcffdnbihfghaaSizes
namespace Go.Proofs.Ytgcffdnbihfghaa
open Go Go.RowKit
theorem run_storeVar_at {P : Program} (w : World) (g off : Nat) (t ty : TypeId) (cur : Array Value) (cells : Array Value) (hg : Row w g t cur) (hfit : off + cells.size ≤ cur.size) (hi : (P.info? ty).map (·.size) = some cells.size) (h1 : cells.all (·.oneCell') = true) :
    (storeVar ty ⟨g, off, none⟩ (.agg cells)).run P w = .ok () (w.setRow g (cur.toList.take off ++ cells.toList ++ cur.toList.drop (off + cells.size)).toArray) := by
  have := run_storeCells_at (P := P) g off t cells.toList 0 cur w hg (by simpa using hfit) (fun v hv => (Array.all_eq_true_iff_forall_mem.1 h1) v (by simpa using hv))
  cases hq : P.info? ty with
  | none => simp [hq] at hi
  | some i =>
    have hs : cells.size = i.size := by simp [hq] at hi; omega
    simp only [Nat.add_zero, Array.length_toList] at this
    simp [storeVar, sizeOf, typeInfo, hq, Value.cells, hs, this]


theorem store_top {w : World} {ops : Array Oper} {rest : List Oper} {o : Oper} {a : Act} {Q : Exit → Act → World → Prop} (x y : Operand)
    (ho : o.op = .store 23 x y) (hgd : o.guard = none) (hd : o.dst = none)
    (g : Nat) (t : List Int) (hx : a.eval x = .pointer (some ⟨g, 3, none⟩)) (hy : a.eval y = .agg (v8 t)) (i j k : Int) (t0 : List Int)
    (hg : Row w g 25 (nc ⟨i, j, k, t0⟩)) (h0 : t0.length = 32) (ht : t.length = 32)
    (hk : wpList Try.prog ops Q rest a (w.setRow g (nc ⟨i, j, k, t⟩))) : wpList Try.prog ops Q (o :: rest) a w := by
  refine wpList_plain hgd fun K hK => ?_
  have hr := run_storeVar_at (P := Try.prog) w g 3 25 23 (nc ⟨i, j, k, t0⟩) (v8 t) hg (by rw [v8_size, nc_size h0, ht]; decide) (by rw [v8_size, ht]; kernel_rfl) (v8_one _)
  have e : ((nc ⟨i, j, k, t0⟩).toList.take 3 ++ (v8 t).toList ++ (nc ⟨i, j, k, t0⟩).toList.drop (3 + (v8 t).size)).toArray = nc ⟨i, j, k, t⟩ := by
    simp [nc, v8, h0, ht]
  rw [e] at hr
  unfold Oper.wp execOp
  simp only [ho, hx, hy, Instr.storeAt, Instr.sureAddr, Sem.run_bind, Sem.run_pure, Result.andThen_ok, hr]
  rw [← show a.put o.dst undef = a by rw [hd]; rfl] at hk
  exact hK _ _ hk
theorem NRow.set1 {w : World} {g : Nat} {kd s l : Int} {t : List Int} (h : NRow w g ⟨kd, s, l, t⟩) (x : Int) : NRow (w.setCell ⟨g, 1, none⟩ (.int .i64 x)) g ⟨kd, x, l, t⟩ := by
  have := h.row.set0 1 (.int .i64 x)
  have e : (nc ⟨kd, s, l, t⟩).setIfInBounds 1 (.int .i64 x) = nc ⟨kd, x, l, t⟩ := by simp [nc]
  rw [e] at this
  exact ⟨this⟩
theorem NRow.set2 {w : World} {g : Nat} {kd s l : Int} {t : List Int} (h : NRow w g ⟨kd, s, l, t⟩) (x : Int) : NRow (w.setCell ⟨g, 2, none⟩ (.int .i64 x)) g ⟨kd, s, x, t⟩ := by
  have := h.row.set0 2 (.int .i64 x)
  have e : (nc ⟨kd, s, l, t⟩).setIfInBounds 2 (.int .i64 x) = nc ⟨kd, s, x, t⟩ := by simp [nc]
  rw [e] at this
  exact ⟨this⟩
/-- An inode such as may be, mostly. -/
def inoN (n : Nd) (how : Int) : Nd := if how.tmod 3 = 0 then n else ⟨1 + n.kind % 2, n.size % 5000, lvl (n.size % 5000), if n.size % 5000 = 0 then zer 32 else n.top⟩
theorem inoN_len {n : Nd} (how : Int) (h : n.top.length = 32) : (inoN n how).top.length = 32 := by
  unfold inoN
  split
  · exact h
  · simp only; split
    · rfl
    · exact h
theorem inoN_by {n : Nd} (how : Int) (h : By n.top) : By (inoN n how).top := by
  unfold inoN
  split
  · exact h
  · simp only; split
    · intro x hx; simp [zer] at hx; omega
    · exact h

set_option maxRecDepth 20000 in
set_option maxHeartbeats 1000000 in
theorem ino_any (n : Nd) (how : Int) (w : World) (ht : n.top.length = 32) :
    Calls Try.prog 10 #[.agg (nc n), .int .i64 how] w fun e w' => e = .returned (.agg (nc (inoN n how))) ∧ Below w.heap.size w w' := by
  have hi25 : (Try.prog.info? 25).map (·.size) = some (nc n).size := info25 ht
  have hr0 : NRow ((w.alloc (.cells (nc n) 25)).alloc (.cells (nc zeroN) 25)) w.heap.size n := ⟨(Row.new _ _ _).alloc _⟩
  have hr1 : Row ((w.alloc (.cells (nc n) 25)).alloc (.cells (nc zeroN) 25)) (w.heap.size + 1) 25 (nc zeroN) := Row.newAt _ _ _ _ (by simp)
  have hb : Below w.heap.size w ((w.alloc (.cells (nc n) 25)).alloc (.cells (nc zeroN) 25)) := ((Below.refl _ _).alloc (Nat.le_refl _) _).alloc (by simp) _
  have hnl : (nc zeroN).size = (nc n).size := by rw [nc_size ht]; rfl
  by_cases h0 : how.tmod 3 = 0
  · have e : inoN n how = n := by unfold inoN; rw [if_pos h0]
    rw [e]
    have h0b : (how.tmod 3 == 0) = true := by simpa using h0
    go_enter Try.func10, Try.ntmps10
    go_upto_region 1 with fail
    change Code.wp _ _ _ _ ((w.alloc (.cells (nc n) 25)).alloc (.cells (nc zeroN) 25))
    generalize (w.alloc (.cells (nc n) 25)).alloc (.cells (nc zeroN) 25) = w1 at *
    go_wp2_with (first | (refine wpList_load_row (by rfl) 25 (.tmp 2) (by rfl) w.heap.size (by rfl) 25 (nc n) (0, 0) _ hr0.row Try.underlying25 rfl hi25 ?_) | (refine store_row0 25 (.tmp 4) (.tmp 8) (by rfl) (by rfl) (by rfl) (w.heap.size + 1) (nc n) (by rfl) (by rfl) 25 _ hr1 hi25 hnl (nc_one _) ?_))
    exact bodyPost_ret (results_cell_row Try.results10 _ _ (w.heap.size + 1) 25 (nc n) (0, 0) _ rfl (hr1.setRow _) Try.underlying25 rfl hi25) rfl ⟨rfl, below_setRow hb (by omega) _⟩
  · have h0b : (how.tmod 3 == 0) = false := by simpa using h0
    have e : inoN n how = ⟨1 + n.kind % 2, n.size % 5000, lvl (n.size % 5000), if n.size % 5000 = 0 then zer 32 else n.top⟩ := by unfold inoN; rw [if_neg h0]
    have hw1 := fun w1 => within_any n.kind 2 w1 (by decide) (by decide)
    have hw2 := fun w1 => within_any n.size 5000 w1 (by decide) (by decide)
    have hk0 := Int.emod_nonneg n.kind (show (2 : Int) ≠ 0 by decide)
    have hk1 := Int.emod_lt_of_pos n.kind (show (0 : Int) < 2 by decide)
    have hs0 := Int.emod_nonneg n.size (show (5000 : Int) ≠ 0 by decide)
    have hs1 := Int.emod_lt_of_pos n.size (show (0 : Int) < 5000 by decide)
    rw [e]
    obtain ⟨kd, s, lv, tp⟩ := n
    simp only at hw1 hw2 hk0 hk1 hs0 hs1 ht ⊢
    obtain ⟨TOP, hT⟩ : ∃ TOP, (if s % 5000 = 0 then zer 32 else tp) = TOP := ⟨_, rfl⟩
    rw [hT]
    generalize hkm : kd % 2 = km at *
    generalize hsm : s % 5000 = sm at *
    clear e hkm hsm
    have hlv := fun w1 => rlevels_any sm w1 (by omega)
    generalize lvl sm = lm at *
    go_enter Try.func10, Try.ntmps10
    go_upto_region 1 with fail
    change Code.wp _ _ _ _ ((w.alloc (.cells (nc ⟨kd, s, lv, tp⟩) 25)).alloc (.cells (nc zeroN) 25))
    generalize (w.alloc (.cells (nc ⟨kd, s, lv, tp⟩) 25)).alloc (.cells (nc zeroN) 25) = w1 at *
    go_upto_region 3 with fail
    have c0 : ∀ k, (w1.drewN k).cell? ⟨w.heap.size, 0, none⟩ = some (.int .i64 kd) := fun k => (hr0.drewN k).c0
    have c1 : ∀ k, (w1.drewN k).cell? ⟨w.heap.size, 1, none⟩ = some (.int .i64 s) := fun k => (hr0.drewN k).c1
    refine wp_region_quiet_tail 8 (by kernel_rfl) (by kernel_rfl) ?_
    simp only [List.take_succ_cons, List.take_zero, List.drop_succ_cons, List.drop_zero]
    iterate 2 (go_big_quiet_step (fail))
    go_big_quiet_step ((go_at_call_of 27 (Value.int IntKind.i64 kd); with_reducible exact (hw1 _).mono (fun e w' ⟨he, hw⟩ => ⟨he, _, hw⟩)))
    iterate 3 (go_big_quiet_step (fail))
    go_big_quiet_step ((go_at_call_of 27 (Value.int IntKind.i64 s); with_reducible exact (hw2 _).mono (fun e w' ⟨he, hw⟩ => ⟨he, _, hw⟩)))
    go_big_quiet_step (fail)
    refine wpQuiet_nil ?_
    rintro _ ⟨nq, rfl⟩
    have r0 := hr0.drewN nq
    have r1 := hr1.drewN nq
    have rb := below_drewN hb nq
    clear c0 c1 hr0 hr1 hb
    generalize w1.drewN nq = w2 at r0 r1 rb ⊢
    have c0 := r0.c0
    have c1 := r0.c1
    have f0 := r0.row.frozen (j := 0)
    have f1 := r0.row.frozen (j := 1)
    have s0 := (r0.set0 (1 + km)).set1 sm
    have s1 := (r1.setOther (a := ⟨w.heap.size, 0, none⟩) (by simp) (.int .i64 (1 + km))).setOther (a := ⟨w.heap.size, 1, none⟩) (by simp) (.int .i64 sm)
    have sb := (rb.setCell (p := ⟨w.heap.size, 0, none⟩) (by simp) (.int .i64 (1 + km))).setCell (p := ⟨w.heap.size, 1, none⟩) (by simp) (.int .i64 sm)
    go_upto_region 4 with fail
    change Code.wp _ _ _ _ ((w2.setCell ⟨w.heap.size, 0, none⟩ (.int .i64 (1 + km))).setCell ⟨w.heap.size, 1, none⟩ (.int .i64 sm))
    generalize (w2.setCell ⟨w.heap.size, 0, none⟩ (.int .i64 (1 + km))).setCell ⟨w.heap.size, 1, none⟩ (.int .i64 sm) = w3 at s0 s1 sb ⊢
    clear r0 r1 rb c0 c1 f0 f1
    have d1 := s0.c1
    have d2 := s0.c2
    have f2 := s0.row.frozen (j := 2)
    have t0 := s0.set2 lm
    have t1 := s1.setOther (a := ⟨w.heap.size, 2, none⟩) (by simp) (.int .i64 lm)
    have tb := sb.setCell (p := ⟨w.heap.size, 2, none⟩) (by simp) (.int .i64 lm)
    go_upto_region 5 with (go_at_call 30; (with_reducible refine Calls.mono (hlv _) ?_); rintro e w4 ⟨rfl, hw⟩; obtain rfl := hw.symm; clear hw)
    change Code.wp _ _ _ _ (w3.setCell ⟨w.heap.size, 2, none⟩ (.int .i64 lm))
    generalize w3.setCell ⟨w.heap.size, 2, none⟩ (.int .i64 lm) = w4 at t0 t1 tb ⊢
    clear s0 s1 sb d1 d2 f2 hw1 hw2 hlv
    have d1 := t0.c1
    by_cases hz : sm = 0
    · subst hz
      rw [if_pos rfl] at hT
      subst hT
      have u0 := t0.row.setRow (nc ⟨1 + km, 0, lm, zer 32⟩)
      have u1 := t1.setRowOther (g := w.heap.size) (by omega) (nc ⟨1 + km, 0, lm, zer 32⟩)
      have ub := below_setRow (g := w.heap.size) tb (by omega) (nc ⟨1 + km, 0, lm, zer 32⟩)
      have hiX : (Try.prog.info? 25).map (·.size) = some (nc ⟨1 + km, 0, lm, zer 32⟩).size := info25 rfl
      go_upto_region 7 with (refine store_top (.tmp 26) (.tmp 25) (by rfl) (by rfl) (by rfl) w.heap.size (zer 32) (by rfl) (by rfl) (1 + km) 0 lm tp t0.row ht rfl ?_)
      generalize w4.setRow w.heap.size (nc ⟨1 + km, 0, lm, zer 32⟩) = w5 at u0 u1 ub ⊢
      go_wp2_with (first | (refine wpList_load_row (by rfl) 25 (.tmp 2) (by rfl) w.heap.size (by rfl) 25 (nc ⟨1 + km, 0, lm, zer 32⟩) (0, 0) _ u0 Try.underlying25 rfl hiX ?_) | (refine store_row0 25 (.tmp 4) (.tmp 27) (by rfl) (by rfl) (by rfl) (w.heap.size + 1) (nc ⟨1 + km, 0, lm, zer 32⟩) (by rfl) (by rfl) 25 _ u1 hiX rfl (nc_one _) ?_))
      exact bodyPost_ret (results_cell_row Try.results10 _ _ (w.heap.size + 1) 25 (nc ⟨1 + km, 0, lm, zer 32⟩) (0, 0) _ rfl (u1.setRow _) Try.underlying25 rfl hiX) rfl ⟨rfl, below_setRow ub (by omega) _⟩
    · rw [if_neg hz] at hT
      subst hT
      have hzb : (sm == 0) = false := by simpa using hz
      have hiX : (Try.prog.info? 25).map (·.size) = some (nc ⟨1 + km, sm, lm, tp⟩).size := info25 ht
      have hoX : (nc zeroN).size = (nc ⟨1 + km, sm, lm, tp⟩).size := by rw [nc_size (n := ⟨1 + km, sm, lm, tp⟩) ht]; rfl
      go_wp2_with (first | (refine wpList_load_row (by rfl) 25 (.tmp 2) (by rfl) w.heap.size (by rfl) 25 (nc ⟨1 + km, sm, lm, tp⟩) (0, 0) _ t0.row Try.underlying25 rfl hiX ?_) | (refine store_row0 25 (.tmp 4) (.tmp 27) (by rfl) (by rfl) (by rfl) (w.heap.size + 1) (nc ⟨1 + km, sm, lm, tp⟩) (by rfl) (by rfl) 25 _ t1 hiX hoX (nc_one _) ?_))
      exact bodyPost_ret (results_cell_row Try.results10 _ _ (w.heap.size + 1) 25 (nc ⟨1 + km, sm, lm, tp⟩) (0, 0) _ rfl (t1.setRow _) Try.underlying25 rfl hiX) rfl ⟨rfl, below_setRow tb (by omega) _⟩
end Go.Proofs.Ytgcffdnbihfghaa
