/- Between and Within of the reference: what they answer, in the numbers' words; they turn no old memory. -/
import Derived.Test.YtkmhnpkkkhglpaaRless
namespace Go.Proofs.Ytkmhnpkkkhglpaa
open Go.RowKit

set_option maxRecDepth 20000 in
set_option maxHeartbeats 1000000 in
theorem rbetween_any (a x b : List Int) (w : World) (ha : Id32 a) (hx : Id32 x) (hb : Id32 b) :
    Calls Try.prog 13 #[.agg (v8 a), .agg (v8 x), .agg (v8 b)] w fun e w' => e = .returned (.bool (btw a x b)) ∧ Below w.heap.size w w' := by
  have q1 := eql23 ha hb
  have q2 := neq23 hx ha
  have sa := sz23 ha
  have sx := sz23 hx
  have sb := sz23 hb
  have b0 : Below w.heap.size w (((w.alloc (.cells (v8 a) 23)).alloc (.cells (v8 x) 23)).alloc (.cells (v8 b) 23)) := (((Below.refl _ _).alloc (Nat.le_refl _) _).alloc (by simp) _).alloc (by simp; omega) _
  have ra : Row (((w.alloc (.cells (v8 a) 23)).alloc (.cells (v8 x) 23)).alloc (.cells (v8 b) 23)) w.heap.size 23 (v8 a) := ((Row.new w 23 (v8 a)).alloc _).alloc _
  have rx : Row (((w.alloc (.cells (v8 a) 23)).alloc (.cells (v8 x) 23)).alloc (.cells (v8 b) 23)) (w.heap.size + 1) 23 (v8 x) := (Row.newAt _ _ _ _ (by simp)).alloc _
  have rb : Row (((w.alloc (.cells (v8 a) 23)).alloc (.cells (v8 x) 23)).alloc (.cells (v8 b) 23)) (w.heap.size + 1 + 1) 23 (v8 b) := Row.newAt _ _ _ _ (by simp)
  have hB : Below (((w.alloc (.cells (v8 a) 23)).alloc (.cells (v8 x) 23)).alloc (.cells (v8 b) 23)).heap.size (((w.alloc (.cells (v8 a) 23)).alloc (.cells (v8 x) 23)).alloc (.cells (v8 b) 23)) (((w.alloc (.cells (v8 a) 23)).alloc (.cells (v8 x) 23)).alloc (.cells (v8 b) 23)) := Below.refl _ _
  unfold btw
  by_cases e1 : a = b
  · have d1 : decide (a = b) = true := by simpa using e1
    rw [d1] at q1
    rw [if_pos e1]
    clear d1 e1
    go_enter Try.func13, Try.ntmps13
    go_wp2_with (first | (refine load_rowW ?hw 23 (.tmp 3) (by rfl) w.heap.size (by rfl) 23 (v8 a) (0, 0) _ (ra.below hB ra.lt) Try.underlying23 rfl sa ?_; (case hw => rfl)) | (refine load_rowW ?hw 23 (.tmp 4) (by rfl) (w.heap.size + 1) (by rfl) 23 (v8 x) (0, 0) _ (rx.below hB rx.lt) Try.underlying23 rfl sx ?_; (case hw => rfl)) | (refine load_rowW ?hw 23 (.tmp 5) (by rfl) (w.heap.size + 1 + 1) (by rfl) 23 (v8 b) (0, 0) _ (rb.below hB rb.lt) Try.underlying23 rfl sb ?_; (case hw => rfl)))
    go_ret
    exact ⟨rfl, b0.trans (hB.mono b0.size)⟩
  · have d1 : decide (a = b) = false := by simpa using e1
    rw [d1] at q1
    rw [if_neg e1]
    clear d1 e1
    have l1 := fun wx => rless_any a b wx ha hb
    have l2 := fun wx => rless_any a x wx ha hx
    have l3 := fun wx => rless_any x b wx hx hb
    by_cases e2 : num a < num b
    · have d2 : decide (num a < num b) = true := by simpa using e2
      rw [d2] at l1
      rw [if_pos e2]
      clear d2 e2
      generalize decide (num a < num x) = p1 at l2 ⊢
      generalize decide (num x < num b) = p2 at l3 ⊢
      cases p1 <;> cases p2
      all_goals
        go_enter Try.func13, Try.ntmps13
        go_wp2_with (first | (refine load_rowW ?hw 23 (.tmp 3) (by rfl) w.heap.size (by rfl) 23 (v8 a) (0, 0) _ (ra.below hB ra.lt) Try.underlying23 rfl sa ?_; (case hw => rfl)) | (refine load_rowW ?hw 23 (.tmp 4) (by rfl) (w.heap.size + 1) (by rfl) 23 (v8 x) (0, 0) _ (rx.below hB rx.lt) Try.underlying23 rfl sx ?_; (case hw => rfl)) | (refine load_rowW ?hw 23 (.tmp 5) (by rfl) (w.heap.size + 1 + 1) (by rfl) 23 (v8 b) (0, 0) _ (rb.below hB rb.lt) Try.underlying23 rfl sb ?_; (case hw => rfl)) | (go_at_call 11; with_reducible refine Calls.mono (l1 _) ?_; rintro e w1 ⟨rfl, hb1⟩; have hB := hB.trans (hb1.mono hB.size)) | (go_at_call 11; with_reducible refine Calls.mono (l2 _) ?_; rintro e w1 ⟨rfl, hb1⟩; have hB := hB.trans (hb1.mono hB.size)) | (go_at_call 11; with_reducible refine Calls.mono (l3 _) ?_; rintro e w1 ⟨rfl, hb1⟩; have hB := hB.trans (hb1.mono hB.size)))
        go_ret
        exact ⟨rfl, b0.trans (hB.mono b0.size)⟩
    · have d2 : decide (num a < num b) = false := by simpa using e2
      rw [d2] at l1
      rw [if_neg e2]
      clear d2 e2
      generalize decide (num a < num x) = p1 at l2 ⊢
      generalize decide (num x < num b) = p2 at l3 ⊢
      cases p1 <;> cases p2
      all_goals
        go_enter Try.func13, Try.ntmps13
        go_wp2_with (first | (refine load_rowW ?hw 23 (.tmp 3) (by rfl) w.heap.size (by rfl) 23 (v8 a) (0, 0) _ (ra.below hB ra.lt) Try.underlying23 rfl sa ?_; (case hw => rfl)) | (refine load_rowW ?hw 23 (.tmp 4) (by rfl) (w.heap.size + 1) (by rfl) 23 (v8 x) (0, 0) _ (rx.below hB rx.lt) Try.underlying23 rfl sx ?_; (case hw => rfl)) | (refine load_rowW ?hw 23 (.tmp 5) (by rfl) (w.heap.size + 1 + 1) (by rfl) 23 (v8 b) (0, 0) _ (rb.below hB rb.lt) Try.underlying23 rfl sb ?_; (case hw => rfl)) | (go_at_call 11; with_reducible refine Calls.mono (l1 _) ?_; rintro e w1 ⟨rfl, hb1⟩; have hB := hB.trans (hb1.mono hB.size)) | (go_at_call 11; with_reducible refine Calls.mono (l2 _) ?_; rintro e w1 ⟨rfl, hb1⟩; have hB := hB.trans (hb1.mono hB.size)) | (go_at_call 11; with_reducible refine Calls.mono (l3 _) ?_; rintro e w1 ⟨rfl, hb1⟩; have hB := hB.trans (hb1.mono hB.size)))
        go_ret
        exact ⟨rfl, b0.trans (hB.mono b0.size)⟩

set_option maxRecDepth 20000 in
set_option maxHeartbeats 1000000 in
theorem rwithin_any (a x b : List Int) (w : World) (ha : Id32 a) (hx : Id32 x) (hb : Id32 b) :
    Calls Try.prog 15 #[.agg (v8 a), .agg (v8 x), .agg (v8 b)] w fun e w' => e = .returned (.bool (win a x b)) ∧ Below w.heap.size w w' := by
  have q1 := eql23 ha hb
  have q2 := neq23 hx ha
  have sa := sz23 ha
  have sx := sz23 hx
  have sb := sz23 hb
  have b0 : Below w.heap.size w (((w.alloc (.cells (v8 a) 23)).alloc (.cells (v8 x) 23)).alloc (.cells (v8 b) 23)) := (((Below.refl _ _).alloc (Nat.le_refl _) _).alloc (by simp) _).alloc (by simp; omega) _
  have ra : Row (((w.alloc (.cells (v8 a) 23)).alloc (.cells (v8 x) 23)).alloc (.cells (v8 b) 23)) w.heap.size 23 (v8 a) := ((Row.new w 23 (v8 a)).alloc _).alloc _
  have rx : Row (((w.alloc (.cells (v8 a) 23)).alloc (.cells (v8 x) 23)).alloc (.cells (v8 b) 23)) (w.heap.size + 1) 23 (v8 x) := (Row.newAt _ _ _ _ (by simp)).alloc _
  have rb : Row (((w.alloc (.cells (v8 a) 23)).alloc (.cells (v8 x) 23)).alloc (.cells (v8 b) 23)) (w.heap.size + 1 + 1) 23 (v8 b) := Row.newAt _ _ _ _ (by simp)
  have hB : Below (((w.alloc (.cells (v8 a) 23)).alloc (.cells (v8 x) 23)).alloc (.cells (v8 b) 23)).heap.size (((w.alloc (.cells (v8 a) 23)).alloc (.cells (v8 x) 23)).alloc (.cells (v8 b) 23)) (((w.alloc (.cells (v8 a) 23)).alloc (.cells (v8 x) 23)).alloc (.cells (v8 b) 23)) := Below.refl _ _
  clear q1 q2
  have q1 := eql23 hx hb
  have l1 := fun wx => rbetween_any a x b wx ha hx hb
  unfold win
  generalize decide (x = b) = p1 at q1 ⊢
  generalize btw a x b = p2 at l1 ⊢
  cases p1 <;> cases p2
  all_goals
    go_enter Try.func15, Try.ntmps15
    go_wp2_with (first | (refine load_rowW ?hw 23 (.tmp 3) (by rfl) w.heap.size (by rfl) 23 (v8 a) (0, 0) _ (ra.below hB ra.lt) Try.underlying23 rfl sa ?_; (case hw => rfl)) | (refine load_rowW ?hw 23 (.tmp 4) (by rfl) (w.heap.size + 1) (by rfl) 23 (v8 x) (0, 0) _ (rx.below hB rx.lt) Try.underlying23 rfl sx ?_; (case hw => rfl)) | (refine load_rowW ?hw 23 (.tmp 5) (by rfl) (w.heap.size + 1 + 1) (by rfl) 23 (v8 b) (0, 0) _ (rb.below hB rb.lt) Try.underlying23 rfl sb ?_; (case hw => rfl)) | (go_at_call 13; with_reducible refine Calls.mono (l1 _) ?_; rintro e w1 ⟨rfl, hb1⟩; have hB := hB.trans (hb1.mono hB.size)))
    go_ret
    exact ⟨rfl, b0.trans (hB.mono b0.size)⟩
end Go.Proofs.Ytkmhnpkkkhglpaa
