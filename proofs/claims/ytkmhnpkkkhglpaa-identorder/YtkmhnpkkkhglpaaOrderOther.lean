/- IdentOrder returns true and turns no old memory, for any two ids. -/
import Derived.Test.YtkmhnpkkkhglpaaOrderSame
namespace Go.Proofs.Ytkmhnpkkkhglpaa
open Go.RowKit


set_option maxRecDepth 20000 in
set_option maxHeartbeats 4000000 in
theorem order_other (a b : List Int) (w : World) (ha : Id32 a) (hb : Id32 b) (e1 : a ≠ b) :
    Calls Try.prog 6 #[.agg (v8 a), .agg (v8 b)] w fun e w' => e = .returned (.bool true) ∧ Below w.heap.size w w' := by
  have q1 := eql23 ha hb
  have sa := sz23 ha
  have sb := sz23 hb
  have sn := sz23 id_zero
  have b0 : Below w.heap.size w ((w.alloc (.cells (v8 a) 23)).alloc (.cells (v8 b) 23)) := ((Below.refl _ _).alloc (Nat.le_refl _) _).alloc (by simp) _
  have ra : Row ((w.alloc (.cells (v8 a) 23)).alloc (.cells (v8 b) 23)) w.heap.size 23 (v8 a) := (Row.new w 23 (v8 a)).alloc _
  have rb : Row ((w.alloc (.cells (v8 a) 23)).alloc (.cells (v8 b) 23)) (w.heap.size + 1) 23 (v8 b) := Row.newAt _ _ _ _ (by simp)
  have hB : Below ((w.alloc (.cells (v8 a) 23)).alloc (.cells (v8 b) 23)).heap.size ((w.alloc (.cells (v8 a) 23)).alloc (.cells (v8 b) 23)) ((w.alloc (.cells (v8 a) 23)).alloc (.cells (v8 b) 23)) := Below.refl _ _
  have d0 : decide (a = b) = false := by simpa using e1
  rw [d0] at q1
  have hn : num a ≠ num b := fun h => e1 ((ha.inj hb).1 h)
  have l1 := fun wx => less_any a b wx ha hb
  have l2 := fun wx => less_any b a wx hb ha
  have l3 := fun wx => between_any zero32 a b wx id_zero ha hb
  have z1 := eql23 ha id_zero
  have z2 := eql23 hb id_zero
  have hpq : decide (num b < num a) = !decide (num a < num b) := by
    by_cases h : num a < num b
    · have : ¬ num b < num a := by omega
      simp [h, this]
    · have : num b < num a := by omega
      simp [h, this]
  rw [hpq] at l2
  have hr : decide (a = zero32) = false → decide (b = zero32) = false → btw zero32 a b = decide (num a < num b) := fun h1 h2 => by
    have h1' : a ≠ zero32 := by simpa using h1
    have h2' : b ≠ zero32 := by simpa using h2
    have p1 : 0 < num a := by have := ha.bound; have : num a ≠ 0 := fun h => h1' ((ha.inj id_zero).1 (h.trans num_zero.symm)); omega
    have p2 : 0 < num b := by have := hb.bound; have : num b ≠ 0 := fun h => h2' ((hb.inj id_zero).1 (h.trans num_zero.symm)); omega
    simp [btw, Ne.symm h2', num_zero, p1, p2]
  generalize decide (num a < num b) = p at l1 l2 hr
  generalize decide (a = zero32) = d1 at z1 hr
  generalize decide (b = zero32) = d2 at z2 hr
  generalize btw zero32 a b = r at l3 hr
  clear hpq hn e1 d0
  have hr : Hid _ := show (d1 = false → d2 = false → r = p) from hr
  go_enter Try.func6, Try.ntmps6
  go_wp2_with (first | (go_at_call 8; with_reducible refine Calls.mono (known_any _) ?_; rintro e wk ⟨rfl, hbk⟩; have hk := hB.trans (hbk.mono hB.size); have hB := hk.alloc hk.size (.cells (v8 zero32) 23); have rn := Row.new wk 23 (v8 zero32)) | (refine load_rowW ?hw 23 (.tmp 2) (by rfl) w.heap.size (by rfl) 23 (v8 a) (0, 0) _ (ra.below hB ra.lt) Try.underlying23 rfl sa ?_; (case hw => rfl)) | (refine load_rowW ?hw 23 (.tmp 3) (by rfl) (w.heap.size + 1) (by rfl) 23 (v8 b) (0, 0) _ (rb.below hB rb.lt) Try.underlying23 rfl sb ?_; (case hw => rfl)))
  have b1 : Below w.heap.size w (wk.alloc (.cells (v8 zero32) 23)) := b0.trans (hB.mono b0.size)
  have ra1 := ra.below hB ra.lt
  have rb1 := rb.below hB rb.lt
  change Code.wp _ _ _ _ (wk.alloc (.cells (v8 zero32) 23))
  generalize wk.alloc (.cells (v8 zero32) 23) = w2 at b1 ra1 rb1 rn ⊢
  clear hB hk hbk ra rb b0
  have main : Hid (∀ (ι : Type) (W : ι → World), (∀ i, Below w2.heap.size w2 (W i)) → (∀ i, Row (W i) w.heap.size 23 (v8 a)) ∧ (∀ i, Row (W i) (w.heap.size + 1) 23 (v8 b)) ∧ (∀ i, Row (W i) wk.heap.size 23 (v8 zero32))) := show (∀ _, _) from fun ι W hb =>
    ⟨fun i => ra1.below (hb i) ra1.lt, fun i => rb1.below (hb i) rb1.lt, fun i => rn.below (hb i) rn.lt⟩
  refine region_tail 6 (by kernel_rfl) (by kernel_rfl) (by kernel_rfl) ?_
  apply Exists.intro
  refine ⟨fun ι _ W hb hc => ?_, fun w3 hb3 => ?_⟩
  · obtain ⟨hA, hBB, hZ⟩ := main.out ι W hb
    simp only [List.take_succ_cons, List.take_zero]
    (refine q_load_rowW 23 (.tmp 2) (by rfl) ?hgd w.heap.size (by rfl) 23 _ _ hA Try.underlying23 rfl sa ?_; (case hgd => rfl); simp only [Act.put, List.setIfInBounds_toArray, List.set_cons_succ, List.set_cons_zero])
    (refine q_load_rowW 23 (.tmp 3) (by rfl) ?hgd (w.heap.size + 1) (by rfl) 23 _ _ hBB Try.underlying23 rfl sb ?_; (case hgd => rfl); simp only [Act.put, List.setIfInBounds_toArray, List.set_cons_succ, List.set_cons_zero])
    go_big_quiet_step (first | (go_at_call 10; with_reducible exact (l1 _).mono (fun e w' ⟨he, hw⟩ => ⟨he, hc _ _ hw⟩)) | (go_at_call 10; with_reducible exact (l2 _).mono (fun e w' ⟨he, hw⟩ => ⟨he, hc _ _ hw⟩)))
    (refine q_load_rowW 23 (.tmp 3) (by rfl) ?hgd (w.heap.size + 1) (by rfl) 23 _ _ hBB Try.underlying23 rfl sb ?_; (case hgd => rfl); simp only [Act.put, List.setIfInBounds_toArray, List.set_cons_succ, List.set_cons_zero])
    (refine q_load_rowW 23 (.tmp 2) (by rfl) ?hgd w.heap.size (by rfl) 23 _ _ hA Try.underlying23 rfl sa ?_; (case hgd => rfl); simp only [Act.put, List.setIfInBounds_toArray, List.set_cons_succ, List.set_cons_zero])
    go_big_quiet_step (first | (go_at_call 10; with_reducible exact (l1 _).mono (fun e w' ⟨he, hw⟩ => ⟨he, hc _ _ hw⟩)) | (go_at_call 10; with_reducible exact (l2 _).mono (fun e w' ⟨he, hw⟩ => ⟨he, hc _ _ hw⟩)))
    exact wpQuiet_nil rfl
  · simp only [List.drop_succ_cons, List.drop_zero]
    clear l2
    cases p <;> cases d1 <;> cases d2
    · go_wp2
      refine region_tail 18 (by kernel_rfl) (by kernel_rfl) (by kernel_rfl) ?_
      apply Exists.intro
      refine ⟨fun ι _ W hb hc => ?_, fun w4 hb4 => ?_⟩
      · obtain ⟨hA, hBB, hZ⟩ := main.out ι W (fun i => hb3.trans ((hb i).mono hb3.size))
        simp only [List.take_succ_cons, List.take_zero]
        (refine q_load_rowW 23 (.tmp 2) (by rfl) ?hgd w.heap.size (by rfl) 23 _ _ hA Try.underlying23 rfl sa ?_; (case hgd => rfl); simp only [Act.put, List.setIfInBounds_toArray, List.set_cons_succ, List.set_cons_zero])
        (refine q_load_rowW 23 (.tmp 5) (by rfl) ?hgd wk.heap.size (by rfl) 23 _ _ hZ Try.underlying23 rfl sn ?_; (case hgd => rfl); simp only [Act.put, List.setIfInBounds_toArray, List.set_cons_succ, List.set_cons_zero])
        go_big_quiet_step (fail)
        go_big_quiet_step (fail)
        (refine q_load_rowW 23 (.tmp 3) (by rfl) ?hgd (w.heap.size + 1) (by rfl) 23 _ _ hBB Try.underlying23 rfl sb ?_; (case hgd => rfl); simp only [Act.put, List.setIfInBounds_toArray, List.set_cons_succ, List.set_cons_zero])
        (refine q_load_rowW 23 (.tmp 5) (by rfl) ?hgd wk.heap.size (by rfl) 23 _ _ hZ Try.underlying23 rfl sn ?_; (case hgd => rfl); simp only [Act.put, List.setIfInBounds_toArray, List.set_cons_succ, List.set_cons_zero])
        go_big_quiet_step (fail)
        go_big_quiet_step (fail)
        go_big_quiet_step (fail)
        (refine q_load_rowW 23 (.tmp 2) (by rfl) ?hgd w.heap.size (by rfl) 23 _ _ hA Try.underlying23 rfl sa ?_; (case hgd => rfl); simp only [Act.put, List.setIfInBounds_toArray, List.set_cons_succ, List.set_cons_zero])
        (refine q_load_rowW 23 (.tmp 3) (by rfl) ?hgd (w.heap.size + 1) (by rfl) 23 _ _ hBB Try.underlying23 rfl sb ?_; (case hgd => rfl); simp only [Act.put, List.setIfInBounds_toArray, List.set_cons_succ, List.set_cons_zero])
        go_big_quiet_step (first | (go_at_call 10; with_reducible exact (l1 _).mono (fun e w' ⟨he, hw⟩ => ⟨he, hc _ _ hw⟩)))
        (refine q_load_rowW 23 (.tmp 5) (by rfl) ?hgd wk.heap.size (by rfl) 23 _ _ hZ Try.underlying23 rfl sn ?_; (case hgd => rfl); simp only [Act.put, List.setIfInBounds_toArray, List.set_cons_succ, List.set_cons_zero])
        (refine q_load_rowW 23 (.tmp 2) (by rfl) ?hgd w.heap.size (by rfl) 23 _ _ hA Try.underlying23 rfl sa ?_; (case hgd => rfl); simp only [Act.put, List.setIfInBounds_toArray, List.set_cons_succ, List.set_cons_zero])
        (refine q_load_rowW 23 (.tmp 3) (by rfl) ?hgd (w.heap.size + 1) (by rfl) 23 _ _ hBB Try.underlying23 rfl sb ?_; (case hgd => rfl); simp only [Act.put, List.setIfInBounds_toArray, List.set_cons_succ, List.set_cons_zero])
        go_big_quiet_step (first | (go_at_call 12; with_reducible exact (l3 _).mono (fun e w' ⟨he, hw⟩ => ⟨he, hc _ _ hw⟩)))
        go_big_quiet_step (fail)
        go_big_quiet_step (fail)
        exact wpQuiet_nil rfl
      · simp only [List.drop_succ_cons, List.drop_zero]
        go_wp2
        go_ret
        exact ⟨rfl, b1.trans ((hb3.trans (hb4.mono hb3.size)).mono b1.size)⟩
    · go_wp2
      refine region_tail 18 (by kernel_rfl) (by kernel_rfl) (by kernel_rfl) ?_
      apply Exists.intro
      refine ⟨fun ι _ W hb hc => ?_, fun w4 hb4 => ?_⟩
      · obtain ⟨hA, hBB, hZ⟩ := main.out ι W (fun i => hb3.trans ((hb i).mono hb3.size))
        simp only [List.take_succ_cons, List.take_zero]
        (refine q_load_rowW 23 (.tmp 2) (by rfl) ?hgd w.heap.size (by rfl) 23 _ _ hA Try.underlying23 rfl sa ?_; (case hgd => rfl); simp only [Act.put, List.setIfInBounds_toArray, List.set_cons_succ, List.set_cons_zero])
        (refine q_load_rowW 23 (.tmp 5) (by rfl) ?hgd wk.heap.size (by rfl) 23 _ _ hZ Try.underlying23 rfl sn ?_; (case hgd => rfl); simp only [Act.put, List.setIfInBounds_toArray, List.set_cons_succ, List.set_cons_zero])
        go_big_quiet_step (fail)
        go_big_quiet_step (fail)
        (refine q_load_rowW 23 (.tmp 3) (by rfl) ?hgd (w.heap.size + 1) (by rfl) 23 _ _ hBB Try.underlying23 rfl sb ?_; (case hgd => rfl); simp only [Act.put, List.setIfInBounds_toArray, List.set_cons_succ, List.set_cons_zero])
        (refine q_load_rowW 23 (.tmp 5) (by rfl) ?hgd wk.heap.size (by rfl) 23 _ _ hZ Try.underlying23 rfl sn ?_; (case hgd => rfl); simp only [Act.put, List.setIfInBounds_toArray, List.set_cons_succ, List.set_cons_zero])
        go_big_quiet_step (fail)
        go_big_quiet_step (fail)
        go_big_quiet_step (fail)
        go_big_quiet_step (fail)
        go_big_quiet_step (fail)
        go_big_quiet_step (fail)
        go_big_quiet_step (fail)
        go_big_quiet_step (fail)
        go_big_quiet_step (fail)
        go_big_quiet_step (fail)
        go_big_quiet_step (fail)
        go_big_quiet_step (fail)
        exact wpQuiet_nil rfl
      · simp only [List.drop_succ_cons, List.drop_zero]
        go_wp2
        go_ret
        exact ⟨rfl, b1.trans ((hb3.trans (hb4.mono hb3.size)).mono b1.size)⟩
    · go_wp2
      refine region_tail 18 (by kernel_rfl) (by kernel_rfl) (by kernel_rfl) ?_
      apply Exists.intro
      refine ⟨fun ι _ W hb hc => ?_, fun w4 hb4 => ?_⟩
      · obtain ⟨hA, hBB, hZ⟩ := main.out ι W (fun i => hb3.trans ((hb i).mono hb3.size))
        simp only [List.take_succ_cons, List.take_zero]
        (refine q_load_rowW 23 (.tmp 2) (by rfl) ?hgd w.heap.size (by rfl) 23 _ _ hA Try.underlying23 rfl sa ?_; (case hgd => rfl); simp only [Act.put, List.setIfInBounds_toArray, List.set_cons_succ, List.set_cons_zero])
        (refine q_load_rowW 23 (.tmp 5) (by rfl) ?hgd wk.heap.size (by rfl) 23 _ _ hZ Try.underlying23 rfl sn ?_; (case hgd => rfl); simp only [Act.put, List.setIfInBounds_toArray, List.set_cons_succ, List.set_cons_zero])
        go_big_quiet_step (fail)
        go_big_quiet_step (fail)
        go_big_quiet_step (fail)
        go_big_quiet_step (fail)
        go_big_quiet_step (fail)
        go_big_quiet_step (fail)
        go_big_quiet_step (fail)
        go_big_quiet_step (fail)
        go_big_quiet_step (fail)
        go_big_quiet_step (fail)
        go_big_quiet_step (fail)
        go_big_quiet_step (fail)
        go_big_quiet_step (fail)
        go_big_quiet_step (fail)
        go_big_quiet_step (fail)
        go_big_quiet_step (fail)
        exact wpQuiet_nil rfl
      · simp only [List.drop_succ_cons, List.drop_zero]
        go_wp2
        go_ret
        exact ⟨rfl, b1.trans ((hb3.trans (hb4.mono hb3.size)).mono b1.size)⟩
    · go_wp2
      refine region_tail 18 (by kernel_rfl) (by kernel_rfl) (by kernel_rfl) ?_
      apply Exists.intro
      refine ⟨fun ι _ W hb hc => ?_, fun w4 hb4 => ?_⟩
      · obtain ⟨hA, hBB, hZ⟩ := main.out ι W (fun i => hb3.trans ((hb i).mono hb3.size))
        simp only [List.take_succ_cons, List.take_zero]
        (refine q_load_rowW 23 (.tmp 2) (by rfl) ?hgd w.heap.size (by rfl) 23 _ _ hA Try.underlying23 rfl sa ?_; (case hgd => rfl); simp only [Act.put, List.setIfInBounds_toArray, List.set_cons_succ, List.set_cons_zero])
        (refine q_load_rowW 23 (.tmp 5) (by rfl) ?hgd wk.heap.size (by rfl) 23 _ _ hZ Try.underlying23 rfl sn ?_; (case hgd => rfl); simp only [Act.put, List.setIfInBounds_toArray, List.set_cons_succ, List.set_cons_zero])
        go_big_quiet_step (fail)
        go_big_quiet_step (fail)
        go_big_quiet_step (fail)
        go_big_quiet_step (fail)
        go_big_quiet_step (fail)
        go_big_quiet_step (fail)
        go_big_quiet_step (fail)
        go_big_quiet_step (fail)
        go_big_quiet_step (fail)
        go_big_quiet_step (fail)
        go_big_quiet_step (fail)
        go_big_quiet_step (fail)
        go_big_quiet_step (fail)
        go_big_quiet_step (fail)
        go_big_quiet_step (fail)
        go_big_quiet_step (fail)
        exact wpQuiet_nil rfl
      · simp only [List.drop_succ_cons, List.drop_zero]
        go_wp2
        go_ret
        exact ⟨rfl, b1.trans ((hb3.trans (hb4.mono hb3.size)).mono b1.size)⟩
    · go_wp2
      refine region_tail 18 (by kernel_rfl) (by kernel_rfl) (by kernel_rfl) ?_
      apply Exists.intro
      refine ⟨fun ι _ W hb hc => ?_, fun w4 hb4 => ?_⟩
      · obtain ⟨hA, hBB, hZ⟩ := main.out ι W (fun i => hb3.trans ((hb i).mono hb3.size))
        simp only [List.take_succ_cons, List.take_zero]
        (refine q_load_rowW 23 (.tmp 2) (by rfl) ?hgd w.heap.size (by rfl) 23 _ _ hA Try.underlying23 rfl sa ?_; (case hgd => rfl); simp only [Act.put, List.setIfInBounds_toArray, List.set_cons_succ, List.set_cons_zero])
        (refine q_load_rowW 23 (.tmp 5) (by rfl) ?hgd wk.heap.size (by rfl) 23 _ _ hZ Try.underlying23 rfl sn ?_; (case hgd => rfl); simp only [Act.put, List.setIfInBounds_toArray, List.set_cons_succ, List.set_cons_zero])
        go_big_quiet_step (fail)
        go_big_quiet_step (fail)
        (refine q_load_rowW 23 (.tmp 3) (by rfl) ?hgd (w.heap.size + 1) (by rfl) 23 _ _ hBB Try.underlying23 rfl sb ?_; (case hgd => rfl); simp only [Act.put, List.setIfInBounds_toArray, List.set_cons_succ, List.set_cons_zero])
        (refine q_load_rowW 23 (.tmp 5) (by rfl) ?hgd wk.heap.size (by rfl) 23 _ _ hZ Try.underlying23 rfl sn ?_; (case hgd => rfl); simp only [Act.put, List.setIfInBounds_toArray, List.set_cons_succ, List.set_cons_zero])
        go_big_quiet_step (fail)
        go_big_quiet_step (fail)
        go_big_quiet_step (fail)
        (refine q_load_rowW 23 (.tmp 2) (by rfl) ?hgd w.heap.size (by rfl) 23 _ _ hA Try.underlying23 rfl sa ?_; (case hgd => rfl); simp only [Act.put, List.setIfInBounds_toArray, List.set_cons_succ, List.set_cons_zero])
        (refine q_load_rowW 23 (.tmp 3) (by rfl) ?hgd (w.heap.size + 1) (by rfl) 23 _ _ hBB Try.underlying23 rfl sb ?_; (case hgd => rfl); simp only [Act.put, List.setIfInBounds_toArray, List.set_cons_succ, List.set_cons_zero])
        go_big_quiet_step (first | (go_at_call 10; with_reducible exact (l1 _).mono (fun e w' ⟨he, hw⟩ => ⟨he, hc _ _ hw⟩)))
        (refine q_load_rowW 23 (.tmp 5) (by rfl) ?hgd wk.heap.size (by rfl) 23 _ _ hZ Try.underlying23 rfl sn ?_; (case hgd => rfl); simp only [Act.put, List.setIfInBounds_toArray, List.set_cons_succ, List.set_cons_zero])
        (refine q_load_rowW 23 (.tmp 2) (by rfl) ?hgd w.heap.size (by rfl) 23 _ _ hA Try.underlying23 rfl sa ?_; (case hgd => rfl); simp only [Act.put, List.setIfInBounds_toArray, List.set_cons_succ, List.set_cons_zero])
        (refine q_load_rowW 23 (.tmp 3) (by rfl) ?hgd (w.heap.size + 1) (by rfl) 23 _ _ hBB Try.underlying23 rfl sb ?_; (case hgd => rfl); simp only [Act.put, List.setIfInBounds_toArray, List.set_cons_succ, List.set_cons_zero])
        go_big_quiet_step (first | (go_at_call 12; with_reducible exact (l3 _).mono (fun e w' ⟨he, hw⟩ => ⟨he, hc _ _ hw⟩)))
        go_big_quiet_step (fail)
        go_big_quiet_step (fail)
        exact wpQuiet_nil rfl
      · simp only [List.drop_succ_cons, List.drop_zero]
        go_wp2
        go_ret
        exact ⟨rfl, b1.trans ((hb3.trans (hb4.mono hb3.size)).mono b1.size)⟩
    · go_wp2
      refine region_tail 18 (by kernel_rfl) (by kernel_rfl) (by kernel_rfl) ?_
      apply Exists.intro
      refine ⟨fun ι _ W hb hc => ?_, fun w4 hb4 => ?_⟩
      · obtain ⟨hA, hBB, hZ⟩ := main.out ι W (fun i => hb3.trans ((hb i).mono hb3.size))
        simp only [List.take_succ_cons, List.take_zero]
        (refine q_load_rowW 23 (.tmp 2) (by rfl) ?hgd w.heap.size (by rfl) 23 _ _ hA Try.underlying23 rfl sa ?_; (case hgd => rfl); simp only [Act.put, List.setIfInBounds_toArray, List.set_cons_succ, List.set_cons_zero])
        (refine q_load_rowW 23 (.tmp 5) (by rfl) ?hgd wk.heap.size (by rfl) 23 _ _ hZ Try.underlying23 rfl sn ?_; (case hgd => rfl); simp only [Act.put, List.setIfInBounds_toArray, List.set_cons_succ, List.set_cons_zero])
        go_big_quiet_step (fail)
        go_big_quiet_step (fail)
        (refine q_load_rowW 23 (.tmp 3) (by rfl) ?hgd (w.heap.size + 1) (by rfl) 23 _ _ hBB Try.underlying23 rfl sb ?_; (case hgd => rfl); simp only [Act.put, List.setIfInBounds_toArray, List.set_cons_succ, List.set_cons_zero])
        (refine q_load_rowW 23 (.tmp 5) (by rfl) ?hgd wk.heap.size (by rfl) 23 _ _ hZ Try.underlying23 rfl sn ?_; (case hgd => rfl); simp only [Act.put, List.setIfInBounds_toArray, List.set_cons_succ, List.set_cons_zero])
        go_big_quiet_step (fail)
        go_big_quiet_step (fail)
        go_big_quiet_step (fail)
        go_big_quiet_step (fail)
        go_big_quiet_step (fail)
        go_big_quiet_step (fail)
        go_big_quiet_step (fail)
        go_big_quiet_step (fail)
        go_big_quiet_step (fail)
        go_big_quiet_step (fail)
        go_big_quiet_step (fail)
        go_big_quiet_step (fail)
        exact wpQuiet_nil rfl
      · simp only [List.drop_succ_cons, List.drop_zero]
        go_wp2
        go_ret
        exact ⟨rfl, b1.trans ((hb3.trans (hb4.mono hb3.size)).mono b1.size)⟩
    · go_wp2
      refine region_tail 18 (by kernel_rfl) (by kernel_rfl) (by kernel_rfl) ?_
      apply Exists.intro
      refine ⟨fun ι _ W hb hc => ?_, fun w4 hb4 => ?_⟩
      · obtain ⟨hA, hBB, hZ⟩ := main.out ι W (fun i => hb3.trans ((hb i).mono hb3.size))
        simp only [List.take_succ_cons, List.take_zero]
        (refine q_load_rowW 23 (.tmp 2) (by rfl) ?hgd w.heap.size (by rfl) 23 _ _ hA Try.underlying23 rfl sa ?_; (case hgd => rfl); simp only [Act.put, List.setIfInBounds_toArray, List.set_cons_succ, List.set_cons_zero])
        (refine q_load_rowW 23 (.tmp 5) (by rfl) ?hgd wk.heap.size (by rfl) 23 _ _ hZ Try.underlying23 rfl sn ?_; (case hgd => rfl); simp only [Act.put, List.setIfInBounds_toArray, List.set_cons_succ, List.set_cons_zero])
        go_big_quiet_step (fail)
        go_big_quiet_step (fail)
        go_big_quiet_step (fail)
        go_big_quiet_step (fail)
        go_big_quiet_step (fail)
        go_big_quiet_step (fail)
        go_big_quiet_step (fail)
        go_big_quiet_step (fail)
        go_big_quiet_step (fail)
        go_big_quiet_step (fail)
        go_big_quiet_step (fail)
        go_big_quiet_step (fail)
        go_big_quiet_step (fail)
        go_big_quiet_step (fail)
        go_big_quiet_step (fail)
        go_big_quiet_step (fail)
        exact wpQuiet_nil rfl
      · simp only [List.drop_succ_cons, List.drop_zero]
        go_wp2
        go_ret
        exact ⟨rfl, b1.trans ((hb3.trans (hb4.mono hb3.size)).mono b1.size)⟩
    · go_wp2
      refine region_tail 18 (by kernel_rfl) (by kernel_rfl) (by kernel_rfl) ?_
      apply Exists.intro
      refine ⟨fun ι _ W hb hc => ?_, fun w4 hb4 => ?_⟩
      · obtain ⟨hA, hBB, hZ⟩ := main.out ι W (fun i => hb3.trans ((hb i).mono hb3.size))
        simp only [List.take_succ_cons, List.take_zero]
        (refine q_load_rowW 23 (.tmp 2) (by rfl) ?hgd w.heap.size (by rfl) 23 _ _ hA Try.underlying23 rfl sa ?_; (case hgd => rfl); simp only [Act.put, List.setIfInBounds_toArray, List.set_cons_succ, List.set_cons_zero])
        (refine q_load_rowW 23 (.tmp 5) (by rfl) ?hgd wk.heap.size (by rfl) 23 _ _ hZ Try.underlying23 rfl sn ?_; (case hgd => rfl); simp only [Act.put, List.setIfInBounds_toArray, List.set_cons_succ, List.set_cons_zero])
        go_big_quiet_step (fail)
        go_big_quiet_step (fail)
        go_big_quiet_step (fail)
        go_big_quiet_step (fail)
        go_big_quiet_step (fail)
        go_big_quiet_step (fail)
        go_big_quiet_step (fail)
        go_big_quiet_step (fail)
        go_big_quiet_step (fail)
        go_big_quiet_step (fail)
        go_big_quiet_step (fail)
        go_big_quiet_step (fail)
        go_big_quiet_step (fail)
        go_big_quiet_step (fail)
        go_big_quiet_step (fail)
        go_big_quiet_step (fail)
        exact wpQuiet_nil rfl
      · simp only [List.drop_succ_cons, List.drop_zero]
        go_wp2
        go_ret
        exact ⟨rfl, b1.trans ((hb3.trans (hb4.mono hb3.size)).mono b1.size)⟩
end Go.Proofs.Ytkmhnpkkkhglpaa
