/- wrong, of the reference: what an inode is none for. No old memory turns. -/
import Derived.Test.YtgcffdnbihfghaaSized
namespace Go.Proofs.Ytgcffdnbihfghaa
open Go Go.RowKit
set_option maxRecDepth 20000 in
set_option maxHeartbeats 1000000 in
theorem wrong_any (n : Nd) (w : World) (ht : n.top.length = 32) :
    Calls Try.prog 33 #[.agg (nc n)] w fun e w' => e = .returned (.int .i64 (errN n)) ∧ Below w.heap.size w w' := by
  obtain ⟨R, hR⟩ : ∃ R, errN n = R := ⟨_, rfl⟩
  rw [hR]
  have hb : Below w.heap.size w (w.alloc (.cells (nc n) 25)) := (Below.refl _ _).alloc (Nat.le_refl _) _
  have hr : NRow (w.alloc (.cells (nc n) 25)) w.heap.size n := ⟨Row.new _ _ _⟩
  obtain ⟨N, hN⟩ : ∃ N, nc n = N := ⟨_, rfl⟩
  rw [hN] at hb hr ⊢
  obtain ⟨kd, s, lv, tp⟩ := n
  simp only at ht
  simp only [errN, okN] at hR
  clear hN
  have heq : ∀ wx, (Op.equalIn 10000 23 (.agg (tp.map (Value.int .u8)).toArray) (.agg #[.int .u8 0, .int .u8 0, .int .u8 0, .int .u8 0, .int .u8 0, .int .u8 0, .int .u8 0, .int .u8 0, .int .u8 0, .int .u8 0, .int .u8 0, .int .u8 0, .int .u8 0, .int .u8 0, .int .u8 0, .int .u8 0, .int .u8 0, .int .u8 0, .int .u8 0, .int .u8 0, .int .u8 0, .int .u8 0, .int .u8 0, .int .u8 0, .int .u8 0, .int .u8 0, .int .u8 0, .int .u8 0, .int .u8 0, .int .u8 0, .int .u8 0, .int .u8 0])).run Try.prog wx = .ok (decide (tp = zer 32)) wx := fun wx => run_eq_array wx 9998 23 5 32 tp (zer 32) Try.underlying23 Try.underlying5 (by kernel_rfl) ht rfl
  have hi23 : (Try.prog.info? 23).map (·.size) = some (tp.map (Value.int .u8)).length := by rw [List.length_map, ht]; kernel_rfl
  have c0 : (w.alloc (.cells N 25)).cell? ⟨w.heap.size, 0, none⟩ = some (.int .i64 kd) := hr.c0
  go_enter Try.func33, Try.ntmps33
  by_cases h0 : kd ≠ 1 ∧ kd ≠ 2
  · rw [if_pos h0] at hR
    obtain ⟨h0a, h0b⟩ := h0
    subst hR
    have n1 : (kd != 1) = true := by simpa using h0a
    have n2 : (kd != 2) = true := by simpa using h0b
    go_wp2
    go_ret
    exact ⟨rfl, hb⟩
  rw [if_neg h0] at hR
  rcases (by omega : kd = 1 ∨ kd = 2) with rfl | rfl
  · clear h0
    go_upto_region 3 with fail
    change Code.wp _ _ _ _ (w.alloc (.cells N 25))
    clear c0
    generalize w.alloc (.cells N 25) = w1 at *
    have c1 : ∀ k, (w1.drewN k).cell? ⟨w.heap.size, 1, none⟩ = some (.int .i64 s) := fun k => (hr.drewN k).c1
    have c2 : ∀ k, (w1.drewN k).cell? ⟨w.heap.size, 2, none⟩ = some (.int .i64 lv) := fun k => (hr.drewN k).c2
    by_cases h1 : s < 0
    · obtain rfl : R = 1 := by rw [← hR]; simp [h1]
      clear hR
      refine wp_region_quiet_lit (by kernel_rfl) (by kernel_rfl) ?_
      repeat (go_big_quiet_step (fail))
      refine wpQuiet_nil ?_
      rintro _ ⟨nq, rfl⟩
      have hb2 := below_drewN hb nq
      clear hr hb c1 c2
      generalize w1.drewN nq = w2 at *
      go_wp2
      go_ret
      exact ⟨rfl, hb2⟩
    by_cases h2 : s > 1048576
    · obtain rfl : R = 1 := by rw [← hR]; simp [h1, h2]
      clear hR
      refine wp_region_quiet_lit (by kernel_rfl) (by kernel_rfl) ?_
      repeat (go_big_quiet_step (fail))
      refine wpQuiet_nil ?_
      rintro _ ⟨nq, rfl⟩
      have hb2 := below_drewN hb nq
      clear hr hb c1 c2
      generalize w1.drewN nq = w2 at *
      go_wp2
      go_ret
      exact ⟨rfl, hb2⟩
    by_cases h3 : lv = lvl s
    · subst h3
      by_cases h4 : s = 0
      · subst h4
        have hrg : ∀ k, (w1.drewN k).rangeAt w.heap.size 3 (tp.map (Value.int .u8)) := fun k => (hr.drewN k).range
        by_cases h5 : tp = zer 32
        · obtain rfl : R = 0 := by rw [← hR]; simp [h5]
          have heq2 : ∀ wx, (Op.equalIn 10000 23 (.agg (tp.map (Value.int .u8)).toArray) (.agg #[.int .u8 0, .int .u8 0, .int .u8 0, .int .u8 0, .int .u8 0, .int .u8 0, .int .u8 0, .int .u8 0, .int .u8 0, .int .u8 0, .int .u8 0, .int .u8 0, .int .u8 0, .int .u8 0, .int .u8 0, .int .u8 0, .int .u8 0, .int .u8 0, .int .u8 0, .int .u8 0, .int .u8 0, .int .u8 0, .int .u8 0, .int .u8 0, .int .u8 0, .int .u8 0, .int .u8 0, .int .u8 0, .int .u8 0, .int .u8 0, .int .u8 0, .int .u8 0])).run Try.prog wx = .ok true wx := fun wx => by rw [heq, decide_eq_true h5]
          clear hR heq h5
          refine wp_region_quiet_lit (by kernel_rfl) (by kernel_rfl) ?_
          iterate 22 (go_big_quiet_step ((go_at_call 30; with_reducible exact (rlevels_any 0 _ (by omega)).mono (fun e w' ⟨he, hw⟩ => ⟨he, _, hw⟩))))
          refine q_load_mid 23 (.tmp 32) (by rfl) (by rfl) w.heap.size 3 (by rfl) (tp.map (Value.int .u8)) _ hrg Try.underlying23 rfl hi23 ?_
          simp only [Act.put, List.setIfInBounds_toArray, List.set_cons_succ, List.set_cons_zero]
          repeat (go_big_quiet_step (fail))
          refine wpQuiet_nil ?_
          rintro _ ⟨nq, rfl⟩
          have hb2 := below_drewN hb nq
          clear hr hb c1 c2
          generalize w1.drewN nq = w2 at *
          go_wp2
          go_ret
          exact ⟨rfl, hb2⟩
        · obtain rfl : R = 1 := by rw [← hR]; simp [h5]
          have heq2 : ∀ wx, (Op.equalIn 10000 23 (.agg (tp.map (Value.int .u8)).toArray) (.agg #[.int .u8 0, .int .u8 0, .int .u8 0, .int .u8 0, .int .u8 0, .int .u8 0, .int .u8 0, .int .u8 0, .int .u8 0, .int .u8 0, .int .u8 0, .int .u8 0, .int .u8 0, .int .u8 0, .int .u8 0, .int .u8 0, .int .u8 0, .int .u8 0, .int .u8 0, .int .u8 0, .int .u8 0, .int .u8 0, .int .u8 0, .int .u8 0, .int .u8 0, .int .u8 0, .int .u8 0, .int .u8 0, .int .u8 0, .int .u8 0, .int .u8 0, .int .u8 0])).run Try.prog wx = .ok false wx := fun wx => by rw [heq, decide_eq_false h5]
          clear hR heq h5
          refine wp_region_quiet_lit (by kernel_rfl) (by kernel_rfl) ?_
          iterate 22 (go_big_quiet_step ((go_at_call 30; with_reducible exact (rlevels_any 0 _ (by omega)).mono (fun e w' ⟨he, hw⟩ => ⟨he, _, hw⟩))))
          refine q_load_mid 23 (.tmp 32) (by rfl) (by rfl) w.heap.size 3 (by rfl) (tp.map (Value.int .u8)) _ hrg Try.underlying23 rfl hi23 ?_
          simp only [Act.put, List.setIfInBounds_toArray, List.set_cons_succ, List.set_cons_zero]
          repeat (go_big_quiet_step (fail))
          refine wpQuiet_nil ?_
          rintro _ ⟨nq, rfl⟩
          have hb2 := below_drewN hb nq
          clear hr hb c1 c2
          generalize w1.drewN nq = w2 at *
          go_wp2
          go_ret
          exact ⟨rfl, hb2⟩
      · have h4b : (s == 0) = false := by simpa using h4
        obtain rfl : R = 0 := by rw [← hR]; simp [h4]; omega
        clear hR
        refine wp_region_quiet_lit (by kernel_rfl) (by kernel_rfl) ?_
        repeat (go_big_quiet_step ((go_at_call 30; with_reducible exact (rlevels_any s _ (by omega)).mono (fun e w' ⟨he, hw⟩ => ⟨he, _, hw⟩))))
        refine wpQuiet_nil ?_
        rintro _ ⟨nq, rfl⟩
        have hb2 := below_drewN hb nq
        clear hr hb c1 c2
        generalize w1.drewN nq = w2 at *
        go_wp2
        go_ret
        exact ⟨rfl, hb2⟩
    · have h3b : (lv != lvl s) = true := by simpa using h3
      obtain rfl : R = 1 := by rw [← hR]; simp [h1, h2, h3]
      clear hR
      refine wp_region_quiet_lit (by kernel_rfl) (by kernel_rfl) ?_
      repeat (go_big_quiet_step ((go_at_call 30; with_reducible exact (rlevels_any s _ (by omega)).mono (fun e w' ⟨he, hw⟩ => ⟨he, _, hw⟩))))
      refine wpQuiet_nil ?_
      rintro _ ⟨nq, rfl⟩
      have hb2 := below_drewN hb nq
      clear hr hb c1 c2
      generalize w1.drewN nq = w2 at *
      go_wp2
      go_ret
      exact ⟨rfl, hb2⟩
  · clear h0
    go_upto_region 3 with fail
    change Code.wp _ _ _ _ (w.alloc (.cells N 25))
    clear c0
    generalize w.alloc (.cells N 25) = w1 at *
    have c1 : ∀ k, (w1.drewN k).cell? ⟨w.heap.size, 1, none⟩ = some (.int .i64 s) := fun k => (hr.drewN k).c1
    have c2 : ∀ k, (w1.drewN k).cell? ⟨w.heap.size, 2, none⟩ = some (.int .i64 lv) := fun k => (hr.drewN k).c2
    by_cases h1 : s < 0
    · obtain rfl : R = 1 := by rw [← hR]; simp [h1]
      clear hR
      refine wp_region_quiet_lit (by kernel_rfl) (by kernel_rfl) ?_
      repeat (go_big_quiet_step (fail))
      refine wpQuiet_nil ?_
      rintro _ ⟨nq, rfl⟩
      have hb2 := below_drewN hb nq
      clear hr hb c1 c2
      generalize w1.drewN nq = w2 at *
      go_wp2
      go_ret
      exact ⟨rfl, hb2⟩
    by_cases h2 : s > 1048576
    · obtain rfl : R = 1 := by rw [← hR]; simp [h1, h2]
      clear hR
      refine wp_region_quiet_lit (by kernel_rfl) (by kernel_rfl) ?_
      repeat (go_big_quiet_step (fail))
      refine wpQuiet_nil ?_
      rintro _ ⟨nq, rfl⟩
      have hb2 := below_drewN hb nq
      clear hr hb c1 c2
      generalize w1.drewN nq = w2 at *
      go_wp2
      go_ret
      exact ⟨rfl, hb2⟩
    by_cases h3 : lv = lvl s
    · subst h3
      by_cases h4 : s = 0
      · subst h4
        have hrg : ∀ k, (w1.drewN k).rangeAt w.heap.size 3 (tp.map (Value.int .u8)) := fun k => (hr.drewN k).range
        by_cases h5 : tp = zer 32
        · obtain rfl : R = 0 := by rw [← hR]; simp [h5]
          have heq2 : ∀ wx, (Op.equalIn 10000 23 (.agg (tp.map (Value.int .u8)).toArray) (.agg #[.int .u8 0, .int .u8 0, .int .u8 0, .int .u8 0, .int .u8 0, .int .u8 0, .int .u8 0, .int .u8 0, .int .u8 0, .int .u8 0, .int .u8 0, .int .u8 0, .int .u8 0, .int .u8 0, .int .u8 0, .int .u8 0, .int .u8 0, .int .u8 0, .int .u8 0, .int .u8 0, .int .u8 0, .int .u8 0, .int .u8 0, .int .u8 0, .int .u8 0, .int .u8 0, .int .u8 0, .int .u8 0, .int .u8 0, .int .u8 0, .int .u8 0, .int .u8 0])).run Try.prog wx = .ok true wx := fun wx => by rw [heq, decide_eq_true h5]
          clear hR heq h5
          refine wp_region_quiet_lit (by kernel_rfl) (by kernel_rfl) ?_
          iterate 22 (go_big_quiet_step ((go_at_call 30; with_reducible exact (rlevels_any 0 _ (by omega)).mono (fun e w' ⟨he, hw⟩ => ⟨he, _, hw⟩))))
          refine q_load_mid 23 (.tmp 32) (by rfl) (by rfl) w.heap.size 3 (by rfl) (tp.map (Value.int .u8)) _ hrg Try.underlying23 rfl hi23 ?_
          simp only [Act.put, List.setIfInBounds_toArray, List.set_cons_succ, List.set_cons_zero]
          repeat (go_big_quiet_step (fail))
          refine wpQuiet_nil ?_
          rintro _ ⟨nq, rfl⟩
          have hb2 := below_drewN hb nq
          clear hr hb c1 c2
          generalize w1.drewN nq = w2 at *
          go_wp2
          go_ret
          exact ⟨rfl, hb2⟩
        · obtain rfl : R = 1 := by rw [← hR]; simp [h5]
          have heq2 : ∀ wx, (Op.equalIn 10000 23 (.agg (tp.map (Value.int .u8)).toArray) (.agg #[.int .u8 0, .int .u8 0, .int .u8 0, .int .u8 0, .int .u8 0, .int .u8 0, .int .u8 0, .int .u8 0, .int .u8 0, .int .u8 0, .int .u8 0, .int .u8 0, .int .u8 0, .int .u8 0, .int .u8 0, .int .u8 0, .int .u8 0, .int .u8 0, .int .u8 0, .int .u8 0, .int .u8 0, .int .u8 0, .int .u8 0, .int .u8 0, .int .u8 0, .int .u8 0, .int .u8 0, .int .u8 0, .int .u8 0, .int .u8 0, .int .u8 0, .int .u8 0])).run Try.prog wx = .ok false wx := fun wx => by rw [heq, decide_eq_false h5]
          clear hR heq h5
          refine wp_region_quiet_lit (by kernel_rfl) (by kernel_rfl) ?_
          iterate 22 (go_big_quiet_step ((go_at_call 30; with_reducible exact (rlevels_any 0 _ (by omega)).mono (fun e w' ⟨he, hw⟩ => ⟨he, _, hw⟩))))
          refine q_load_mid 23 (.tmp 32) (by rfl) (by rfl) w.heap.size 3 (by rfl) (tp.map (Value.int .u8)) _ hrg Try.underlying23 rfl hi23 ?_
          simp only [Act.put, List.setIfInBounds_toArray, List.set_cons_succ, List.set_cons_zero]
          repeat (go_big_quiet_step (fail))
          refine wpQuiet_nil ?_
          rintro _ ⟨nq, rfl⟩
          have hb2 := below_drewN hb nq
          clear hr hb c1 c2
          generalize w1.drewN nq = w2 at *
          go_wp2
          go_ret
          exact ⟨rfl, hb2⟩
      · have h4b : (s == 0) = false := by simpa using h4
        obtain rfl : R = 0 := by rw [← hR]; simp [h4]; omega
        clear hR
        refine wp_region_quiet_lit (by kernel_rfl) (by kernel_rfl) ?_
        repeat (go_big_quiet_step ((go_at_call 30; with_reducible exact (rlevels_any s _ (by omega)).mono (fun e w' ⟨he, hw⟩ => ⟨he, _, hw⟩))))
        refine wpQuiet_nil ?_
        rintro _ ⟨nq, rfl⟩
        have hb2 := below_drewN hb nq
        clear hr hb c1 c2
        generalize w1.drewN nq = w2 at *
        go_wp2
        go_ret
        exact ⟨rfl, hb2⟩
    · have h3b : (lv != lvl s) = true := by simpa using h3
      obtain rfl : R = 1 := by rw [← hR]; simp [h1, h2, h3]
      clear hR
      refine wp_region_quiet_lit (by kernel_rfl) (by kernel_rfl) ?_
      repeat (go_big_quiet_step ((go_at_call 30; with_reducible exact (rlevels_any s _ (by omega)).mono (fun e w' ⟨he, hw⟩ => ⟨he, _, hw⟩))))
      refine wpQuiet_nil ?_
      rintro _ ⟨nq, rfl⟩
      have hb2 := below_drewN hb nq
      clear hr hb c1 c2
      generalize w1.drewN nq = w2 at *
      go_wp2
      go_ret
      exact ⟨rfl, hb2⟩
end Go.Proofs.Ytgcffdnbihfghaa
