/- isSized and wrong: what an inode is none for. No old memory turns. -/
import Derived.Test.YtgcffdnbihfghaaLev
import Derived.Test.YtgcffdnbihfghaaRNum
namespace Go.Proofs.Ytgcffdnbihfghaa
open Go Go.RowKit
theorem nc_size {n : Nd} (h : n.top.length = 32) : (nc n).size = 35 := by simp [nc, h]
theorem nc0 (n : Nd) : (nc n)[0]? = some (.int .i64 n.kind) := by simp [nc]
theorem nc1 (n : Nd) : (nc n)[1]? = some (.int .i64 n.size) := by simp [nc]
theorem nc2 (n : Nd) : (nc n)[2]? = some (.int .i64 n.levels) := by simp [nc]
theorem ncT (n : Nd) {j : Nat} (hj : j < n.top.length) : (nc n)[3 + j]? = some (.int .u8 (gi n.top j)) := by
  simp only [nc, List.getElem?_toArray]
  rw [List.getElem?_append_right (by simp)]
  have : 3 + j - 3 = j := by omega
  simp [gi, this, hj]
theorem nc_one (n : Nd) : (nc n).all (·.oneCell') = true := by
  simp [nc, Value.oneCell']
structure NRow (w : World) (g : Nat) (n : Nd) : Prop where
  row : Row w g 25 (nc n)
theorem NRow.c0 {w : World} {g : Nat} {n : Nd} (h : NRow w g n) : w.cell? ⟨g, 0, none⟩ = some (.int .i64 n.kind) := h.row.cell.trans (nc0 n)
theorem NRow.c1 {w : World} {g : Nat} {n : Nd} (h : NRow w g n) : w.cell? ⟨g, 1, none⟩ = some (.int .i64 n.size) := h.row.cell.trans (nc1 n)
theorem NRow.c2 {w : World} {g : Nat} {n : Nd} (h : NRow w g n) : w.cell? ⟨g, 2, none⟩ = some (.int .i64 n.levels) := h.row.cell.trans (nc2 n)
theorem NRow.top {w : World} {g : Nat} {n : Nd} (h : NRow w g n) : Bytes w (some ⟨g, 3, none⟩) n.top := fun _ => ⟨g, 3, rfl, fun _ hj => h.row.cell.trans (ncT n hj)⟩
theorem NRow.range {w : World} {g : Nat} {n : Nd} (h : NRow w g n) : w.rangeAt g 3 (n.top.map (Value.int .u8)) := fun j v hv => by
  have hj : j < n.top.length := by have := (List.getElem?_eq_some_iff.1 hv).1; simpa using this
  rw [h.row.cell, ncT n hj, ← hv]; simp [gi, hj]
theorem NRow.drewN {w : World} {g : Nat} {n : Nd} (h : NRow w g n) (k : Nat) : NRow (w.drewN k) g n := ⟨h.row⟩
theorem NRow.below {w w' : World} {g B : Nat} {n : Nd} (h : NRow w g n) (hb : Below B w w') (hg : g < B) : NRow w' g n := ⟨h.row.below hb hg⟩
theorem zero23 (wx : World) : (zeroValue 23).run Try.prog wx = .ok (.agg (v8 (zer 32))) wx := by kernel_rfl
theorem load_midW {P : Program} {ops : Array Oper} {rest : List Oper} {op : Oper} {a : Act} {w : World} {Q : Exit → Act → World → Prop} (hw : Region.wanted op (yielded ops a.tmps) = true) (ty : TypeId) (x : Operand) (ho : op.op = .load ty x)
    (b o : Nat) (hx : a.eval x = .pointer (some ⟨b, o, none⟩)) (cs : List Value) (d : TypeDesc) (hc : w.rangeAt b o cs)
    (hu : P.underlying ty = some d) (hd : d.isRow = true) (hi : (P.info? ty).map (·.size) = some cs.length)
    (h : wpList P ops Q rest (a.put op.dst (.agg cs.toArray)) w) : wpList P ops Q (op :: rest) a w :=
  BigFrame.wpList_want hw fun _ hK => wp_load_mid ty x ho b o hx cs d hc hu hd hi (hK _ _ h)

theorem q_load_mid {P : Program} {ops : Array Oper} {ι : Type} {W : ι → World} {Q : Act → Prop} {rest : List Oper} {o : Oper} {a : Act} (ty : TypeId) (x : Operand) (ho : o.op = .load ty x) (hgd : Region.wanted o (yielded ops a.tmps) = true)
    (b off : Nat) (hx : a.eval x = .pointer (some ⟨b, off, none⟩)) (cs : List Value) (d : TypeDesc) (hr : ∀ i, (W i).rangeAt b off cs)
    (hu : P.underlying ty = some d) (hd : d.isRow = true) (hi : (P.info? ty).map (·.size) = some cs.length)
    (h : wpQuiet P ops (fun w' => ∃ i, w' = W i) Q rest (a.put o.dst (.agg cs.toArray))) : wpQuiet P ops (fun w' => ∃ i, w' = W i) Q (o :: rest) a := by
  unfold wpQuiet
  rw [if_pos hgd]
  refine ⟨.agg cs.toArray, fun w hw => ?_, h⟩
  obtain ⟨i, rfl⟩ := hw
  unfold Oper.quietAt execOp
  simp only [ho, hx, Instr.loadAt, Instr.sureAddr, Sem.run_bind, Sem.run_pure, Result.andThen_ok, run_loadVar_mid (W i) b off ty cs d (hr i) hu hd hi]
  exact ⟨rfl, rfl⟩
set_option maxRecDepth 20000 in
set_option maxHeartbeats 1000000 in
theorem sized_any (n : Nd) (w : World) (ht : n.top.length = 32) :
    Calls Try.prog 31 #[.agg (nc n)] w fun e w' => e = .returned (.bool (okN n)) ∧ Below w.heap.size w w' := by
  obtain ⟨R, hR⟩ : ∃ R, okN n = R := ⟨_, rfl⟩
  rw [hR]
  have hb : Below w.heap.size w (w.alloc (.cells (nc n) 25)) := (Below.refl _ _).alloc (Nat.le_refl _) _
  have hr : NRow (w.alloc (.cells (nc n) 25)) w.heap.size n := ⟨Row.new _ _ _⟩
  obtain ⟨N, hN⟩ : ∃ N, nc n = N := ⟨_, rfl⟩
  rw [hN] at hb hr ⊢
  obtain ⟨kd, s, lv, tp⟩ := n
  simp only at ht
  simp only [okN] at hR
  clear hN
  have heq : ∀ wx, (Op.equalIn 10000 23 (.agg (tp.map (Value.int .u8)).toArray) (.agg #[.int .u8 0, .int .u8 0, .int .u8 0, .int .u8 0, .int .u8 0, .int .u8 0, .int .u8 0, .int .u8 0, .int .u8 0, .int .u8 0, .int .u8 0, .int .u8 0, .int .u8 0, .int .u8 0, .int .u8 0, .int .u8 0, .int .u8 0, .int .u8 0, .int .u8 0, .int .u8 0, .int .u8 0, .int .u8 0, .int .u8 0, .int .u8 0, .int .u8 0, .int .u8 0, .int .u8 0, .int .u8 0, .int .u8 0, .int .u8 0, .int .u8 0, .int .u8 0])).run Try.prog wx = .ok (decide (tp = zer 32)) wx := fun wx => run_eq_array wx 9998 23 5 32 tp (zer 32) Try.underlying23 Try.underlying5 (by kernel_rfl) ht rfl
  have hi23 : (Try.prog.info? 23).map (·.size) = some (tp.map (Value.int .u8)).length := by rw [List.length_map, ht]; kernel_rfl
  have hz23 : Try.prog.built 23 [] = some (v8 (zer 32)) := by kernel_rfl
  go_enter Try.func31, Try.ntmps31
  go_upto_region 1 with fail
  change Code.wp _ _ _ _ (w.alloc (.cells N 25))
  generalize w.alloc (.cells N 25) = w1 at *
  have c1 : ∀ k, (w1.drewN k).cell? ⟨w.heap.size, 1, none⟩ = some (.int .i64 s) := fun k => (hr.drewN k).c1
  have c2 : ∀ k, (w1.drewN k).cell? ⟨w.heap.size, 2, none⟩ = some (.int .i64 lv) := fun k => (hr.drewN k).c2
  by_cases h1 : s < 0
  · obtain rfl : R = false := by rw [← hR]; simp [h1]
    clear hR
    refine wp_region_quiet_lit (by kernel_rfl) (by kernel_rfl) ?_
    repeat (go_big_quiet_step (fail))
    refine wpQuiet_nil ?_
    rintro _ ⟨nq, rfl⟩
    have hb2 := below_drewN hb nq
    have hr2 := hr.drewN nq
    clear hr hb c1 c2
    generalize w1.drewN nq = w2 at *
    have d1 : w2.cell? ⟨w.heap.size, 1, none⟩ = some (.int .i64 s) := hr2.c1
    have rng : w2.rangeAt w.heap.size 3 (tp.map (Value.int .u8)) := hr2.range
    clear hr2
    go_wp2
    go_ret
    exact ⟨rfl, hb2⟩
  by_cases h2 : s > 1048576
  · obtain rfl : R = false := by rw [← hR]; simp [h1, h2]
    clear hR
    refine wp_region_quiet_lit (by kernel_rfl) (by kernel_rfl) ?_
    repeat (go_big_quiet_step (fail))
    refine wpQuiet_nil ?_
    rintro _ ⟨nq, rfl⟩
    have hb2 := below_drewN hb nq
    have hr2 := hr.drewN nq
    clear hr hb c1 c2
    generalize w1.drewN nq = w2 at *
    have d1 : w2.cell? ⟨w.heap.size, 1, none⟩ = some (.int .i64 s) := hr2.c1
    have rng : w2.rangeAt w.heap.size 3 (tp.map (Value.int .u8)) := hr2.range
    clear hr2
    go_wp2
    go_ret
    exact ⟨rfl, hb2⟩
  by_cases h3 : lv = lvl s
  · subst h3
    by_cases h4 : s > 0
    · obtain rfl : R = true := by rw [← hR]; simp [h1, h2]; omega
      clear hR
      refine wp_region_quiet_lit (by kernel_rfl) (by kernel_rfl) ?_
      repeat (go_big_quiet_step ((go_at_call 47; with_reducible exact (levels_any s _ (by omega)).mono (fun e w' ⟨he, hw⟩ => ⟨he, _, hw⟩))))
      refine wpQuiet_nil ?_
      rintro _ ⟨nq, rfl⟩
      have hb2 := below_drewN hb nq
      have hr2 := hr.drewN nq
      clear hr hb c1 c2
      generalize w1.drewN nq = w2 at *
      have d1 : w2.cell? ⟨w.heap.size, 1, none⟩ = some (.int .i64 s) := hr2.c1
      have rng : w2.rangeAt w.heap.size 3 (tp.map (Value.int .u8)) := hr2.range
      clear hr2
      go_wp2
      go_ret
      exact ⟨rfl, hb2⟩
    · obtain rfl : s = 0 := by omega
      obtain rfl : R = decide (tp = zer 32) := by rw [← hR]; by_cases h5 : tp = zer 32 <;> simp [h5]
      clear hR
      refine wp_region_quiet_lit (by kernel_rfl) (by kernel_rfl) ?_
      repeat (go_big_quiet_step ((go_at_call 47; with_reducible exact (levels_any 0 _ (by omega)).mono (fun e w' ⟨he, hw⟩ => ⟨he, _, hw⟩))))
      refine wpQuiet_nil ?_
      rintro _ ⟨nq, rfl⟩
      have hb2 := below_drewN hb nq
      have hr2 := hr.drewN nq
      clear hr hb c1 c2
      generalize w1.drewN nq = w2 at *
      have d1 : w2.cell? ⟨w.heap.size, 1, none⟩ = some (.int .i64 0) := hr2.c1
      have rng : w2.rangeAt w.heap.size 3 (tp.map (Value.int .u8)) := hr2.range
      clear hr2
      go_wp2_with (refine load_midW ?hw 23 (.tmp 23) ?hz1 w.heap.size 3 ?hz2 (tp.map (Value.int .u8)) _ rng Try.underlying23 rfl hi23 ?_; (case hz1 => with_reducible rfl); (case hz2 => rfl); (case hw => rfl))
      go_ret
      exact ⟨rfl, hb2⟩
  · obtain rfl : R = false := by rw [← hR]; simp [h1, h2, h3]
    clear hR
    refine wp_region_quiet_lit (by kernel_rfl) (by kernel_rfl) ?_
    repeat (go_big_quiet_step ((go_at_call 47; with_reducible exact (levels_any s _ (by omega)).mono (fun e w' ⟨he, hw⟩ => ⟨he, _, hw⟩))))
    refine wpQuiet_nil ?_
    rintro _ ⟨nq, rfl⟩
    have hb2 := below_drewN hb nq
    have hr2 := hr.drewN nq
    clear hr hb c1 c2
    generalize w1.drewN nq = w2 at *
    have d1 : w2.cell? ⟨w.heap.size, 1, none⟩ = some (.int .i64 s) := hr2.c1
    have rng : w2.rangeAt w.heap.size 3 (tp.map (Value.int .u8)) := hr2.range
    clear hr2
    go_wp2
    go_ret
    exact ⟨rfl, hb2⟩
end Go.Proofs.Ytgcffdnbihfghaa
