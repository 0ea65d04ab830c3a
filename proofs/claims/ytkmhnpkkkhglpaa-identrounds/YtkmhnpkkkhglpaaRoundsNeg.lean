/- IdentRounds returns true and turns no old memory, where n < 0. -/
import Derived.Test.YtkmhnpkkkhglpaaRoundLaws
namespace Go.Proofs.Ytkmhnpkkkhglpaa
open Go.RowKit

set_option maxRecDepth 20000 in
set_option maxHeartbeats 2000000 in
theorem rounds_neg_early (a b c : List Int) (n x : Int) (w : World) (ha : Id32 a) (hb : Id32 b) (hc : Id32 c) (hn : n < 0) (hd : a = b ∨ b = c ∨ a = c) :
    Calls Try.prog 4 #[.agg (v8 a), .agg (v8 b), .agg (v8 c), .int .i64 n, .int .u8 x] w fun e w' => e = .returned (.bool true) ∧ Below w.heap.size w w' := by
  have sa := sz23 ha
  have sb := sz23 hb
  have sc := sz23 hc
  have b0 : Below w.heap.size w (((w.alloc (.cells (v8 a) 23)).alloc (.cells (v8 b) 23)).alloc (.cells (v8 c) 23)) := (((Below.refl _ _).alloc (Nat.le_refl _) _).alloc (by simp) _).alloc (by simp; omega) _
  have ra : Row (((w.alloc (.cells (v8 a) 23)).alloc (.cells (v8 b) 23)).alloc (.cells (v8 c) 23)) w.heap.size 23 (v8 a) := ((Row.new w 23 (v8 a)).alloc _).alloc _
  have rb : Row (((w.alloc (.cells (v8 a) 23)).alloc (.cells (v8 b) 23)).alloc (.cells (v8 c) 23)) (w.heap.size + 1) 23 (v8 b) := (Row.newAt _ _ _ _ (by simp)).alloc _
  have rc : Row (((w.alloc (.cells (v8 a) 23)).alloc (.cells (v8 b) 23)).alloc (.cells (v8 c) 23)) (w.heap.size + 1 + 1) 23 (v8 c) := Row.newAt _ _ _ _ (by simp)
  have hB : Below (((w.alloc (.cells (v8 a) 23)).alloc (.cells (v8 b) 23)).alloc (.cells (v8 c) 23)).heap.size (((w.alloc (.cells (v8 a) 23)).alloc (.cells (v8 b) 23)).alloc (.cells (v8 c) 23)) (((w.alloc (.cells (v8 a) 23)).alloc (.cells (v8 b) 23)).alloc (.cells (v8 c) 23)) := Below.refl _ _
  have g1 : decide (0 ≤ n) = false := by simpa using hn
  have q1 := eql23 ha hb
  have q2 := eql23 hb hc
  have q3 := eql23 ha hc
  have hd : (decide (a = b) || decide (b = c) || decide (a = c)) = true := by
    rcases hd with h | h | h
    · rw [decide_eq_true h, Bool.true_or, Bool.true_or]
    · rw [decide_eq_true h, Bool.or_true, Bool.true_or]
    · rw [decide_eq_true h, Bool.or_true]
  generalize decide (a = b) = d1 at q1 hd
  generalize decide (b = c) = d2 at q2 hd
  generalize decide (a = c) = d3 at q3 hd
  clear hn
  cases d1 <;> cases d2 <;> cases d3
  · cases hd
  all_goals
    clear hd
    go_enter Try.func4, Try.ntmps4
    go_wp2_with (first | (go_at_call 8; with_reducible refine Calls.mono (known_any _) ?_; rintro e wk ⟨rfl, hbk⟩; have hB := hB.trans (hbk.mono hB.size)) | (refine load_rowW ?hw 23 (.tmp 5) (by rfl) w.heap.size (by rfl) 23 (v8 a) (0, 0) _ (ra.below hB ra.lt) Try.underlying23 rfl sa ?_; (case hw => rfl)) | (refine load_rowW ?hw 23 (.tmp 6) (by rfl) (w.heap.size + 1) (by rfl) 23 (v8 b) (0, 0) _ (rb.below hB rb.lt) Try.underlying23 rfl sb ?_; (case hw => rfl)) | (refine load_rowW ?hw 23 (.tmp 7) (by rfl) (w.heap.size + 1 + 1) (by rfl) 23 (v8 c) (0, 0) _ (rc.below hB rc.lt) Try.underlying23 rfl sc ?_; (case hw => rfl)))
    go_ret
    exact ⟨rfl, b0.trans (hB.mono b0.size)⟩

set_option maxRecDepth 20000 in
set_option maxHeartbeats 2000000 in
theorem rounds_neg_apart (a b c : List Int) (n x : Int) (w : World) (ha : Id32 a) (hb : Id32 b) (hc : Id32 c) (hn : n < 0) (n1 : a ≠ b) (n2 : b ≠ c) (n3 : a ≠ c) :
    Calls Try.prog 4 #[.agg (v8 a), .agg (v8 b), .agg (v8 c), .int .i64 n, .int .u8 x] w fun e w' => e = .returned (.bool true) ∧ Below w.heap.size w w' := by
  have sa := sz23 ha
  have sb := sz23 hb
  have sc := sz23 hc
  have b0 : Below w.heap.size w (((w.alloc (.cells (v8 a) 23)).alloc (.cells (v8 b) 23)).alloc (.cells (v8 c) 23)) := (((Below.refl _ _).alloc (Nat.le_refl _) _).alloc (by simp) _).alloc (by simp; omega) _
  have ra : Row (((w.alloc (.cells (v8 a) 23)).alloc (.cells (v8 b) 23)).alloc (.cells (v8 c) 23)) w.heap.size 23 (v8 a) := ((Row.new w 23 (v8 a)).alloc _).alloc _
  have rb : Row (((w.alloc (.cells (v8 a) 23)).alloc (.cells (v8 b) 23)).alloc (.cells (v8 c) 23)) (w.heap.size + 1) 23 (v8 b) := (Row.newAt _ _ _ _ (by simp)).alloc _
  have rc : Row (((w.alloc (.cells (v8 a) 23)).alloc (.cells (v8 b) 23)).alloc (.cells (v8 c) 23)) (w.heap.size + 1 + 1) 23 (v8 c) := Row.newAt _ _ _ _ (by simp)
  have hB : Below (((w.alloc (.cells (v8 a) 23)).alloc (.cells (v8 b) 23)).alloc (.cells (v8 c) 23)).heap.size (((w.alloc (.cells (v8 a) 23)).alloc (.cells (v8 b) 23)).alloc (.cells (v8 c) 23)) (((w.alloc (.cells (v8 a) 23)).alloc (.cells (v8 b) 23)).alloc (.cells (v8 c) 23)) := Below.refl _ _
  have g1 : decide (0 ≤ n) = false := by simpa using hn
  have q1 := eql23 ha hb
  have q2 := eql23 hb hc
  have q3 := eql23 ha hc
  rw [show decide (a = b) = false by simpa using n1] at q1
  rw [show decide (b = c) = false by simpa using n2] at q2
  rw [show decide (a = c) = false by simpa using n3] at q3
  have k1 := fun wx => between_any a b c wx ha hb hc
  have k2 := fun wx => between_any a c b wx ha hc hb
  have k3 := fun wx => between_any b c a wx hb hc ha
  have k4 := fun wx => between_any c a b wx hc ha hb
  have k5 := fun wx => between_any a a b wx ha ha hb
  have k6 := fun wx => between_any a b b wx ha hb hb
  have k7 := fun wx => within_any a b b wx ha hb hb
  have k8 := fun wx => between_any a b a wx ha hb ha
  obtain ⟨e2, e3, e4, e5, e6, e7, e8⟩ := btw_laws ha hb hc n1 n2 n3
  rw [e2] at k2
  rw [e3] at k3
  rw [e4] at k4
  rw [e5] at k5
  rw [e6] at k6
  rw [e7] at k7
  rw [e8] at k8
  generalize btw a b c = p at k1 k2 k3 k4
  clear e2 e3 e4 e5 e6 e7 e8 n1 n2 n3 hn
  go_enter Try.func4, Try.ntmps4
  go_wp2_with (first | (go_at_call 8; with_reducible refine Calls.mono (known_any _) ?_; rintro e wk ⟨rfl, hbk⟩; have hB := hB.trans (hbk.mono hB.size)) | (refine load_rowW ?hw 23 (.tmp 5) (by rfl) w.heap.size (by rfl) 23 (v8 a) (0, 0) _ (ra.below hB ra.lt) Try.underlying23 rfl sa ?_; (case hw => rfl)) | (refine load_rowW ?hw 23 (.tmp 6) (by rfl) (w.heap.size + 1) (by rfl) 23 (v8 b) (0, 0) _ (rb.below hB rb.lt) Try.underlying23 rfl sb ?_; (case hw => rfl)) | (refine load_rowW ?hw 23 (.tmp 7) (by rfl) (w.heap.size + 1 + 1) (by rfl) 23 (v8 c) (0, 0) _ (rc.below hB rc.lt) Try.underlying23 rfl sc ?_; (case hw => rfl)))
  have main : Hid (∀ (ι : Type) (W : ι → World), (∀ i, Below wk.heap.size wk (W i)) → (∀ i, Row (W i) w.heap.size 23 (v8 a)) ∧ (∀ i, Row (W i) (w.heap.size + 1) 23 (v8 b)) ∧ (∀ i, Row (W i) (w.heap.size + 1 + 1) 23 (v8 c))) := show (∀ _, _) from fun ι W hbw =>
    ⟨fun i => (ra.below hB ra.lt).below (hbw i) (ra.below hB ra.lt).lt, fun i => (rb.below hB rb.lt).below (hbw i) (rb.below hB rb.lt).lt, fun i => (rc.below hB rc.lt).below (hbw i) (rc.below hB rc.lt).lt⟩
  refine region_tail 8 (by kernel_rfl) (by kernel_rfl) (by kernel_rfl) ?_
  apply Exists.intro
  refine ⟨fun ι _ W hbw hc => ?_, fun w3 hb3 => ?_⟩
  · obtain ⟨hA, hL, hC⟩ := main.out ι W hbw
    simp only [List.take_succ_cons, List.take_zero]
    (refine q_load_rowW 23 (.tmp 5) (by rfl) ?hgd w.heap.size (by rfl) 23 _ _ hA Try.underlying23 rfl sa ?_; (case hgd => rfl); simp only [Act.put, List.setIfInBounds_toArray, List.set_cons_succ, List.set_cons_zero])
    (refine q_load_rowW 23 (.tmp 6) (by rfl) ?hgd (w.heap.size + 1) (by rfl) 23 _ _ hL Try.underlying23 rfl sb ?_; (case hgd => rfl); simp only [Act.put, List.setIfInBounds_toArray, List.set_cons_succ, List.set_cons_zero])
    (refine q_load_rowW 23 (.tmp 7) (by rfl) ?hgd (w.heap.size + 1 + 1) (by rfl) 23 _ _ hC Try.underlying23 rfl sc ?_; (case hgd => rfl); simp only [Act.put, List.setIfInBounds_toArray, List.set_cons_succ, List.set_cons_zero])
    go_big_quiet_step (first | (go_at_call 12; with_reducible exact (k1 _).mono (fun e w' ⟨he, hw⟩ => ⟨he, hc _ _ hw⟩)) | (go_at_call 12; with_reducible exact (k2 _).mono (fun e w' ⟨he, hw⟩ => ⟨he, hc _ _ hw⟩)))
    (refine q_load_rowW 23 (.tmp 5) (by rfl) ?hgd w.heap.size (by rfl) 23 _ _ hA Try.underlying23 rfl sa ?_; (case hgd => rfl); simp only [Act.put, List.setIfInBounds_toArray, List.set_cons_succ, List.set_cons_zero])
    (refine q_load_rowW 23 (.tmp 7) (by rfl) ?hgd (w.heap.size + 1 + 1) (by rfl) 23 _ _ hC Try.underlying23 rfl sc ?_; (case hgd => rfl); simp only [Act.put, List.setIfInBounds_toArray, List.set_cons_succ, List.set_cons_zero])
    (refine q_load_rowW 23 (.tmp 6) (by rfl) ?hgd (w.heap.size + 1) (by rfl) 23 _ _ hL Try.underlying23 rfl sb ?_; (case hgd => rfl); simp only [Act.put, List.setIfInBounds_toArray, List.set_cons_succ, List.set_cons_zero])
    go_big_quiet_step (first | (go_at_call 12; with_reducible exact (k1 _).mono (fun e w' ⟨he, hw⟩ => ⟨he, hc _ _ hw⟩)) | (go_at_call 12; with_reducible exact (k2 _).mono (fun e w' ⟨he, hw⟩ => ⟨he, hc _ _ hw⟩)))
    exact wpQuiet_nil rfl
  · simp only [List.drop_succ_cons, List.drop_zero]
    have hB := hB.trans (hb3.mono hB.size)
    clear main
    cases p
    all_goals
      simp only [Bool.not_true, Bool.not_false] at k2
      go_wp2_with (first | (refine load_rowW ?hw 23 (.tmp 5) (by rfl) w.heap.size (by rfl) 23 (v8 a) (0, 0) _ (ra.below hB ra.lt) Try.underlying23 rfl sa ?_; (case hw => rfl)) | (refine load_rowW ?hw 23 (.tmp 6) (by rfl) (w.heap.size + 1) (by rfl) 23 (v8 b) (0, 0) _ (rb.below hB rb.lt) Try.underlying23 rfl sb ?_; (case hw => rfl)) | (refine load_rowW ?hw 23 (.tmp 7) (by rfl) (w.heap.size + 1 + 1) (by rfl) 23 (v8 c) (0, 0) _ (rc.below hB rc.lt) Try.underlying23 rfl sc ?_; (case hw => rfl)) | (go_at_call 12; with_reducible refine Calls.mono (k3 _) ?_; rintro e w1 ⟨rfl, hb1⟩; have hB := hB.trans (hb1.mono hB.size)) | (go_at_call 12; with_reducible refine Calls.mono (k4 _) ?_; rintro e w1 ⟨rfl, hb1⟩; have hB := hB.trans (hb1.mono hB.size)) | (go_at_call 12; with_reducible refine Calls.mono (k5 _) ?_; rintro e w1 ⟨rfl, hb1⟩; have hB := hB.trans (hb1.mono hB.size)) | (go_at_call 12; with_reducible refine Calls.mono (k6 _) ?_; rintro e w1 ⟨rfl, hb1⟩; have hB := hB.trans (hb1.mono hB.size)) | (go_at_call 12; with_reducible refine Calls.mono (k8 _) ?_; rintro e w1 ⟨rfl, hb1⟩; have hB := hB.trans (hb1.mono hB.size)) | (go_at_call 14; with_reducible refine Calls.mono (k7 _) ?_; rintro e w1 ⟨rfl, hb1⟩; have hB := hB.trans (hb1.mono hB.size)))
      go_ret
      exact ⟨rfl, b0.trans (hB.mono b0.size)⟩

end Go.Proofs.Ytkmhnpkkkhglpaa
