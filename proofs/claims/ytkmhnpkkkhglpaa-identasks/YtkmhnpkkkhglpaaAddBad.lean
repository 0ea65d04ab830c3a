/- Add of package ident and of the reference where k is no power there is: no id, and the error; they turn no old memory. -/
import Derived.Test.YtkmhnpkkkhglpaaAdd
namespace Go.Proofs.Ytkmhnpkkkhglpaa
open Go.RowKit

set_option maxRecDepth 20000 in
set_option maxHeartbeats 1000000 in
theorem add_bad (a : List Int) (k : Int) (w : World) (hk : k < 0 ∨ 255 < k) :
    Calls Try.prog 16 #[.agg (v8 a), .int .i64 k] w fun e w' => e = .returned (.tuple #[.agg (v8 zero32), .int .i64 1]) ∧ Below w.heap.size w w' := by
  have b0 : Below w.heap.size w ((w.alloc (.cells (v8 a) 23)).alloc (.cells (v8 zero32) 23)) := ((Below.refl _ _).alloc (Nat.le_refl _) _).alloc (by simp) _
  have rz : Row ((w.alloc (.cells (v8 a) 23)).alloc (.cells (v8 zero32) 23)) (w.heap.size + 1) 23 (v8 zero32) := Row.newAt _ _ _ _ (by simp)
  have sz := sz23 id_zero
  by_cases h : k < 0
  · have q1 : decide (k < 0) = true := by simpa using h
    go_enter Try.func16, Try.ntmps16
    go_wp2_with (first | (refine store_row0 23 (.tmp 4) (.tmp 15) (by rfl) (by rfl) (by rfl) (w.heap.size + 1) (v8 zero32) (by rfl) (by rfl) 23 _ rz sz rfl (v8_one _) ?_))
    exact bodyPost_ret (results_row_tmp Try.results16 _ _ (w.heap.size + 1) 23 (v8 zero32) _ rfl (rz.setRow _) Try.underlying23 rfl sz) rfl ⟨rfl, below_setRow b0 (by omega) _⟩
  · have q1 : decide (k < 0) = false := by simpa using h
    have q2 : decide (256 ≤ k) = true := by simp; omega
    go_enter Try.func16, Try.ntmps16
    go_wp2_with (first | (refine store_row0 23 (.tmp 4) (.tmp 15) (by rfl) (by rfl) (by rfl) (w.heap.size + 1) (v8 zero32) (by rfl) (by rfl) 23 _ rz sz rfl (v8_one _) ?_))
    exact bodyPost_ret (results_row_tmp Try.results16 _ _ (w.heap.size + 1) 23 (v8 zero32) _ rfl (rz.setRow _) Try.underlying23 rfl sz) rfl ⟨rfl, below_setRow b0 (by omega) _⟩

set_option maxRecDepth 20000 in
set_option maxHeartbeats 1000000 in
theorem radd_bad (a : List Int) (k : Int) (w : World) (hk : k < 0 ∨ 255 < k) :
    Calls Try.prog 17 #[.agg (v8 a), .int .i64 k] w fun e w' => e = .returned (.tuple #[.agg (v8 zero32), .int .i64 1]) ∧ Below w.heap.size w w' := by
  have b0 : Below w.heap.size w ((w.alloc (.cells (v8 a) 23)).alloc (.cells (v8 zero32) 23)) := ((Below.refl _ _).alloc (Nat.le_refl _) _).alloc (by simp) _
  have rz : Row ((w.alloc (.cells (v8 a) 23)).alloc (.cells (v8 zero32) 23)) (w.heap.size + 1) 23 (v8 zero32) := Row.newAt _ _ _ _ (by simp)
  have sz := sz23 id_zero
  by_cases h : k < 0
  · have q1 : decide (k < 0) = true := by simpa using h
    go_enter Try.func17, Try.ntmps17
    go_wp2_with (first | (refine store_row0 23 (.tmp 4) (.tmp 14) (by rfl) (by rfl) (by rfl) (w.heap.size + 1) (v8 zero32) (by rfl) (by rfl) 23 _ rz sz rfl (v8_one _) ?_))
    exact bodyPost_ret (results_row_tmp Try.results17 _ _ (w.heap.size + 1) 23 (v8 zero32) _ rfl (rz.setRow _) Try.underlying23 rfl sz) rfl ⟨rfl, below_setRow b0 (by omega) _⟩
  · have q1 : decide (k < 0) = false := by simpa using h
    have q2 : decide (255 < k) = true := by simp; omega
    go_enter Try.func17, Try.ntmps17
    go_wp2_with (first | (refine store_row0 23 (.tmp 4) (.tmp 14) (by rfl) (by rfl) (by rfl) (w.heap.size + 1) (v8 zero32) (by rfl) (by rfl) 23 _ rz sz rfl (v8_one _) ?_))
    exact bodyPost_ret (results_row_tmp Try.results17 _ _ (w.heap.size + 1) 23 (v8 zero32) _ rfl (rz.setRow _) Try.underlying23 rfl sz) rfl ⟨rfl, below_setRow b0 (by omega) _⟩

end Go.Proofs.Ytkmhnpkkkhglpaa
