/- BlobSizes returns true and turns no old memory, for any numbers. No condition. -/
import Derived.Test.YtgcffdnbihfghaaKnown
namespace Go.Proofs.Ytgcffdnbihfghaa
open Go Go.RowKit
theorem errN_sizes (kd s l : Int) (hk : kd = 1 ∨ kd = 2) (h0 : 0 ≤ s) : errN ⟨kd, s, l, zer 32⟩ = if s ≤ 1048576 ∧ l = lvl s then 0 else 1 := by
  unfold errN okN
  rw [if_neg (by simp only; omega)]
  simp only
  by_cases h1 : s ≤ 1048576 ∧ l = lvl s
  · rw [if_pos h1, if_pos]
    have := h1.1
    have := h1.2
    simp
    omega
  · rw [if_neg h1, if_neg]
    intro h
    apply h1
    simp at h
    omega
theorem NRow.set0 {w : World} {g : Nat} {kd s l : Int} {t : List Int} (h : NRow w g ⟨kd, s, l, t⟩) (x : Int) : NRow (w.setCell ⟨g, 0, none⟩ (.int .i64 x)) g ⟨x, s, l, t⟩ := by
  have := h.row.set0 0 (.int .i64 x)
  have e : (nc ⟨kd, s, l, t⟩).setIfInBounds 0 (.int .i64 x) = nc ⟨x, s, l, t⟩ := by simp [nc]
  rw [e] at this
  exact ⟨this⟩
set_option maxRecDepth 20000 in
set_option maxHeartbeats 1000000 in
theorem sizes_walk (size levels : Int) (dir : Bool) (w : World) :
    Calls Try.prog 6 #[.int .i64 size, .int .i64 levels, .bool dir] w fun e w' => e = .returned (.bool true) ∧ Below w.heap.size w w' := by
  have h0 := Int.emod_nonneg size (show (1048578 : Int) ≠ 0 by decide)
  have h1 := Int.emod_lt_of_pos size (show (0 : Int) < 1048578 by decide)
  have hw1 := fun w1 => within_any size 1048578 w1 (by decide) (by decide)
  have hw2 := fun w1 => within_any levels 9 w1 (by decide) (by decide)
  generalize size % 1048578 = s at *
  generalize levels % 9 = l at *
  have hin := fun wx => inode_any ⟨if dir = true then 2 else 1, s, l, zer 32⟩ wx rfl
  rw [errN_sizes _ s l (by cases dir <;> simp) h0] at hin
  obtain ⟨O, hO⟩ : ∃ O, outN ⟨if dir = true then 2 else 1, s, l, zer 32⟩ = O := ⟨_, rfl⟩
  rw [hO] at hin
  obtain ⟨N, hN⟩ : ∃ N, nc ⟨if dir = true then 2 else 1, s, l, zer 32⟩ = N := ⟨_, rfl⟩
  have hNs : N.size = 35 := by rw [← hN]; exact nc_size rfl
  have hi25 : (Try.prog.info? 25).map (·.size) = some N.size := by rw [hNs]; kernel_rfl
  have hi25a : (Try.prog.info? 25).map (·.size) = some (nc ⟨1, s, l, zer 32⟩).size := by rw [nc_size rfl]; kernel_rfl
  unfold Gives at hin
  simp only [hN] at hin
  clear hO
  go_enter Try.func6, Try.ntmps6
  go_upto_region 6 with (first | (go_at_call 9; (with_reducible refine Calls.mono (known_any _) ?_); rintro e w1 ⟨rfl, hb1⟩) | (go_at_call_of 27 (Value.int IntKind.i64 size); (with_reducible refine Calls.mono (hw1 _) ?_); rintro e w2 ⟨rfl, hw⟩; obtain rfl := hw.symm; clear hw) | (go_at_call_of 27 (Value.int IntKind.i64 levels); (with_reducible refine Calls.mono (hw2 _) ?_); rintro e w2 ⟨rfl, hw⟩; obtain rfl := hw.symm; clear hw) | (refine store_row0 25 (.tmp 7) (.tmp 20) (by rfl) (by rfl) (by rfl) w1.heap.size (nc ⟨1, s, l, zer 32⟩) (by rfl) (by rfl) 25 _ (Row.new _ _ _) hi25a (by rfl) (nc_one _) ?_))
  obtain ⟨g, hg⟩ : ∃ g, g = w1.heap.size := ⟨_, rfl⟩
  have hgB : w.heap.size ≤ g := by rw [hg]; exact hb1.size
  have r1 : NRow ((w1.alloc (.cells (nc ⟨0, 0, 0, zer 32⟩) 25)).setRow w1.heap.size (nc ⟨1, s, l, zer 32⟩)) g ⟨1, s, l, zer 32⟩ := by subst hg; exact ⟨(Row.new _ _ _).setRow _⟩
  have b1 : Below w.heap.size w ((w1.alloc (.cells (nc ⟨0, 0, 0, zer 32⟩) 25)).setRow w1.heap.size (nc ⟨1, s, l, zer 32⟩)) := below_setRow (hb1.alloc hb1.size _) (by omega) _
  change Code.wp _ _ _ _ ((w1.alloc (.cells (nc ⟨0, 0, 0, zer 32⟩) 25)).setRow w1.heap.size (nc ⟨1, s, l, zer 32⟩))
  rw [← hg] at *
  generalize (w1.alloc (.cells (nc ⟨0, 0, 0, zer 32⟩) 25)).setRow g (nc ⟨1, s, l, zer 32⟩) = w2 at r1 b1 ⊢
  clear hb1 hg hw1 hw2
  have c0 := r1.c0
  have f0 := r1.row.frozen (j := 0)
  cases dir with
  | true =>
    go_wp2_with (fail)
    have r2 := r1.set0 2
    have b2 := b1.setCell (p := ⟨g, 0, none⟩) (by simp; omega) (.int .i64 2)
    have hNR : Row (w2.setCell ⟨g, 0, none⟩ (.int .i64 2)) g 25 N := by rw [← hN]; exact r2.row
    generalize (w2.setCell ⟨g, 0, none⟩ (.int .i64 2)) = w3 at r2 b2 hNR ⊢
    clear r2 hN
    go_loop [8, 9] (fun m n => ∃ k : Nat, k ≤ 5 ∧ n = .int .i64 k ∧ m = .int .i64 (roomN k) ∧ ∀ j, j < k → roomN j < s) (fun _ n => 5 - (intOf n).toNat)
    case atStart => exact ⟨0, by omega, rfl, rfl, fun j hj => by omega⟩
    case round =>
      obtain ⟨k, hk, rfl, rfl, q1⟩ := hrel
      by_cases q2 : roomN k < s
      · obtain ⟨q3, q4, q5⟩ := room_next (by omega) hk q1 q2
        have q6 := room_small hk
        clear hin
        generalize roomN k = r at *
        go_wp2
        go_round
        case rel => exact ⟨k + 1, by omega, by go_num, by rw [← q5], q4⟩
        case measure => simp [intOf]; omega
      · have q3 := room_lvl (by omega) hk q1 (by omega)
        have q6 := room_small hk
        rw [q3] at hin
        clear q1 q3
        generalize roomN k = r at *
        by_cases p1 : s ≤ 1048576
        · by_cases p2 : l = k
          · rw [if_pos ⟨p1, p2⟩] at hin
            subst p2
            go_wp2_with (first | (refine wpList_load_row (by rfl) 25 (.tmp 7) (by rfl) g (by rfl) 25 N (0, 0) _ hNR Try.underlying25 rfl hi25 ?_) | (go_at_call 11; (with_reducible refine Calls.mono (hin _) ?_); rintro e w4 ⟨sp, cap, rfl, ho, hb4⟩))
            go_ret
            exact ⟨rfl, b2.trans (hb4.mono b2.size)⟩
          · rw [if_neg (fun h => p2 h.2)] at hin
            have p3 : (l == (k : Int)) = false := by simpa using p2
            go_wp2_with (first | (refine wpList_load_row (by rfl) 25 (.tmp 7) (by rfl) g (by rfl) 25 N (0, 0) _ hNR Try.underlying25 rfl hi25 ?_) | (go_at_call 11; (with_reducible refine Calls.mono (hin _) ?_); rintro e w4 ⟨sp, cap, rfl, ho, hb4⟩))
            go_ret
            exact ⟨rfl, b2.trans (hb4.mono b2.size)⟩
        · rw [if_neg (fun h => p1 h.1)] at hin
          go_wp2_with (first | (refine wpList_load_row (by rfl) 25 (.tmp 7) (by rfl) g (by rfl) 25 N (0, 0) _ hNR Try.underlying25 rfl hi25 ?_) | (go_at_call 11; (with_reducible refine Calls.mono (hin _) ?_); rintro e w4 ⟨sp, cap, rfl, ho, hb4⟩))
          go_ret
          exact ⟨rfl, b2.trans (hb4.mono b2.size)⟩
  | false =>
    go_wp2_with (fail)
    have r2 := r1
    have b2 := b1
    have hNR : Row w2 g 25 N := by rw [← hN]; exact r2.row
    generalize w2 = w3 at r2 b2 hNR ⊢
    clear r2 hN
    go_loop [8, 9] (fun m n => ∃ k : Nat, k ≤ 5 ∧ n = .int .i64 k ∧ m = .int .i64 (roomN k) ∧ ∀ j, j < k → roomN j < s) (fun _ n => 5 - (intOf n).toNat)
    case atStart => exact ⟨0, by omega, rfl, rfl, fun j hj => by omega⟩
    case round =>
      obtain ⟨k, hk, rfl, rfl, q1⟩ := hrel
      by_cases q2 : roomN k < s
      · obtain ⟨q3, q4, q5⟩ := room_next (by omega) hk q1 q2
        have q6 := room_small hk
        clear hin
        generalize roomN k = r at *
        go_wp2
        go_round
        case rel => exact ⟨k + 1, by omega, by go_num, by rw [← q5], q4⟩
        case measure => simp [intOf]; omega
      · have q3 := room_lvl (by omega) hk q1 (by omega)
        have q6 := room_small hk
        rw [q3] at hin
        clear q1 q3
        generalize roomN k = r at *
        by_cases p1 : s ≤ 1048576
        · by_cases p2 : l = k
          · rw [if_pos ⟨p1, p2⟩] at hin
            subst p2
            go_wp2_with (first | (refine wpList_load_row (by rfl) 25 (.tmp 7) (by rfl) g (by rfl) 25 N (0, 0) _ hNR Try.underlying25 rfl hi25 ?_) | (go_at_call 11; (with_reducible refine Calls.mono (hin _) ?_); rintro e w4 ⟨sp, cap, rfl, ho, hb4⟩))
            go_ret
            exact ⟨rfl, b2.trans (hb4.mono b2.size)⟩
          · rw [if_neg (fun h => p2 h.2)] at hin
            have p3 : (l == (k : Int)) = false := by simpa using p2
            go_wp2_with (first | (refine wpList_load_row (by rfl) 25 (.tmp 7) (by rfl) g (by rfl) 25 N (0, 0) _ hNR Try.underlying25 rfl hi25 ?_) | (go_at_call 11; (with_reducible refine Calls.mono (hin _) ?_); rintro e w4 ⟨sp, cap, rfl, ho, hb4⟩))
            go_ret
            exact ⟨rfl, b2.trans (hb4.mono b2.size)⟩
        · rw [if_neg (fun h => p1 h.1)] at hin
          go_wp2_with (first | (refine wpList_load_row (by rfl) 25 (.tmp 7) (by rfl) g (by rfl) 25 N (0, 0) _ hNR Try.underlying25 rfl hi25 ?_) | (go_at_call 11; (with_reducible refine Calls.mono (hin _) ?_); rintro e w4 ⟨sp, cap, rfl, ho, hb4⟩))
          go_ret
          exact ⟨rfl, b2.trans (hb4.mono b2.size)⟩
end Go.Proofs.Ytgcffdnbihfghaa
