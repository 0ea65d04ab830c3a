/- IdentOrder returns true and turns no old memory, for any two ids. -/
import Derived.Test.YtkmhnpkkkhglpaaNear
import Derived.Test.YtkmhnpkkkhglpaaKnown
namespace Go.Proofs.Ytkmhnpkkkhglpaa
open Go.RowKit

/-- A whole row, loaded in a family of worlds, where the guard lets the load by. -/
theorem q_load_rowW {P : Program} {ops : Array Oper} {ι : Type} {W : ι → World} {Q : Act → Prop} {rest : List Oper} {o : Oper} {a : Act} (ty : TypeId) (x : Operand) (ho : o.op = .load ty x) (hgd : Region.wanted o (yielded ops a.tmps) = true)
    (g : Nat) (hx : a.eval x = .pointer (some ⟨g, 0, none⟩)) (t : TypeId) (cs : Array Value) (d : TypeDesc) (hr : ∀ i, Row (W i) g t cs)
    (hu : P.underlying ty = some d) (hd : (match d with | .struct _ | .array _ _ => true | _ => false) = true) (hi : (P.info? ty).map (·.size) = some cs.size)
    (h : wpQuiet P ops (fun w' => ∃ i, w' = W i) Q rest (a.put o.dst (.agg cs))) : wpQuiet P ops (fun w' => ∃ i, w' = W i) Q (o :: rest) a := by
  unfold wpQuiet
  rw [if_pos hgd]
  refine ⟨.agg cs, fun w hw => ?_, h⟩
  obtain ⟨i, rfl⟩ := hw
  unfold Oper.quietAt execOp
  simp only [ho, hx, Instr.loadAt, Instr.sureAddr, Sem.run_bind, Sem.run_pure, Result.andThen_ok, run_loadVar_row (W i) g t ty cs (0, 0) d (hr i) hu hd hi]
  exact ⟨rfl, rfl⟩

theorem num_zero : num zero32 = 0 := by decide

set_option maxRecDepth 20000 in
set_option maxHeartbeats 1000000 in
theorem order_same (a b : List Int) (w : World) (ha : Id32 a) (hb : Id32 b) (e1 : a = b) :
    Calls Try.prog 6 #[.agg (v8 a), .agg (v8 b)] w fun e w' => e = .returned (.bool true) ∧ Below w.heap.size w w' := by
  have q1 := eql23 ha hb
  have sa := sz23 ha
  have sb := sz23 hb
  have sn := sz23 id_zero
  have b0 : Below w.heap.size w ((w.alloc (.cells (v8 a) 23)).alloc (.cells (v8 b) 23)) := ((Below.refl _ _).alloc (Nat.le_refl _) _).alloc (by simp) _
  have ra : Row ((w.alloc (.cells (v8 a) 23)).alloc (.cells (v8 b) 23)) w.heap.size 23 (v8 a) := (Row.new w 23 (v8 a)).alloc _
  have rb : Row ((w.alloc (.cells (v8 a) 23)).alloc (.cells (v8 b) 23)) (w.heap.size + 1) 23 (v8 b) := Row.newAt _ _ _ _ (by simp)
  have hB : Below ((w.alloc (.cells (v8 a) 23)).alloc (.cells (v8 b) 23)).heap.size ((w.alloc (.cells (v8 a) 23)).alloc (.cells (v8 b) 23)) ((w.alloc (.cells (v8 a) 23)).alloc (.cells (v8 b) 23)) := Below.refl _ _
  subst e1
  have d1 : decide (a = a) = true := by simp
  rw [d1] at q1
  have l1 := fun wx => less_any a a wx ha ha
  have l2 := fun wx => between_any a a a wx ha ha ha
  rw [show decide (num a < num a) = false by simp] at l1
  rw [show btw a a a = false by simp [btw]] at l2
  go_enter Try.func6, Try.ntmps6
  go_wp2_with (first | (go_at_call 8; with_reducible refine Calls.mono (known_any _) ?_; rintro e wk ⟨rfl, hbk⟩; have hk := hB.trans (hbk.mono hB.size); have hB := hk.alloc hk.size (.cells (v8 zero32) 23); have rn := Row.new wk 23 (v8 zero32)) | (refine load_rowW ?hw 23 (.tmp 2) (by rfl) w.heap.size (by rfl) 23 (v8 a) (0, 0) _ (ra.below hB ra.lt) Try.underlying23 rfl sa ?_; (case hw => rfl)) | (refine load_rowW ?hw 23 (.tmp 3) (by rfl) (w.heap.size + 1) (by rfl) 23 (v8 a) (0, 0) _ (rb.below hB rb.lt) Try.underlying23 rfl sb ?_; (case hw => rfl)) | (go_at_call 10; with_reducible refine Calls.mono (l1 _) ?_; rintro e w1 ⟨rfl, hb1⟩; have hB := hB.trans (hb1.mono hB.size)) | (go_at_call 12; with_reducible refine Calls.mono (l2 _) ?_; rintro e w1 ⟨rfl, hb1⟩; have hB := hB.trans (hb1.mono hB.size)))
  go_ret
  exact ⟨rfl, b0.trans (hB.mono b0.size)⟩



end Go.Proofs.Ytkmhnpkkkhglpaa
