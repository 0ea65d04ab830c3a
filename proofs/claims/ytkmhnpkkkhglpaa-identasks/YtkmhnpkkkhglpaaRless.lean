/- The reference's Less says whether the one id is the lesser number, and turns no old memory. -/
import Derived.Test.YtkmhnpkkkhglpaaBtw
namespace Go.Proofs.Ytkmhnpkkkhglpaa
open Go.RowKit

theorem lex_at : ∀ (k : Nat) (x y : List Int), In8 x → In8 y → x.length = y.length → k < x.length → (∀ j, j < k → gi x j = gi y j) → gi x k ≠ gi y k → (num x < num y ↔ gi x k < gi y k)
  | _, [], _, _, _, _, h, _, _ => by simp at h
  | _, _ :: _, [], _, _, h, _, _, _ => by simp at h
  | 0, a :: x, b :: y, hx, hy, hl, _, _, hne => by
    have hl' : x.length = y.length := by simpa using hl
    have h1 := num_bound x hx.tail
    have h2 := num_bound y hy.tail
    rw [hl'] at h1
    simp only [gi, List.getD_cons_zero] at hne ⊢
    simp only [num, hl']
    rcases Int.lt_trichotomy a b with hh | hh | hh
    · have := lex_lt h1 h2 hh; simp [hh, this]
    · exact absurd hh hne
    · have := lex_lt h2 h1 hh; omega
  | k + 1, a :: x, b :: y, hx, hy, hl, hk, hj, hne => by
    have hl' : x.length = y.length := by simpa using hl
    have h0 : a = b := by have := hj 0 (by omega); simpa [gi] using this
    subst h0
    have ih := lex_at k x y hx.tail hy.tail hl' (by simpa using hk) (fun j hjk => by have := hj (j + 1) (by omega); simpa [gi] using this) (by simpa [gi] using hne)
    simp only [gi] at ih
    simp only [gi, List.getD_cons_succ, num, hl']
    rw [← ih]; omega
theorem eq_of_gi {x y : List Int} (hx : Id32 x) (hy : Id32 y) (h : ∀ j, j < 32 → gi x j = gi y j) : x = y := by
  apply List.ext_getElem (by rw [hx.1, hy.1])
  intro j h1 h2
  have := h j (by rw [hx.1] at h1; exact h1)
  simpa [gi, h1, h2] using this

set_option maxRecDepth 20000 in
set_option maxHeartbeats 1000000 in
theorem rless_any (x y : List Int) (w : World) (hx : Id32 x) (hy : Id32 y) :
    Calls Try.prog 11 #[.agg (v8 x), .agg (v8 y)] w fun e w' => e = .returned (.bool (decide (num x < num y))) ∧ Below w.heap.size w w' := by
  have b0 : Below w.heap.size w ((w.alloc (.cells (v8 x) 23)).alloc (.cells (v8 y) 23)) := ((Below.refl _ _).alloc (Nat.le_refl _) _).alloc (by simp) _
  have rx : Row ((w.alloc (.cells (v8 x) 23)).alloc (.cells (v8 y) 23)) w.heap.size 23 (v8 x) := (Row.new w 23 (v8 x)).alloc _
  have ry : Row ((w.alloc (.cells (v8 x) 23)).alloc (.cells (v8 y) 23)) (w.heap.size + 1) 23 (v8 y) := Row.newAt _ _ _ _ (by simp)
  go_enter Try.func11, Try.ntmps11
  go_wp2
  generalize (w.alloc (.cells (v8 x) 23)).alloc (.cells (v8 y) 23) = w0 at b0 rx ry ⊢
  go_loopw [5] (fun i wr => ∃ k : Nat, k ≤ 32 ∧ i = .int .i64 k ∧ (∀ j, j < k → gi x j = gi y j) ∧ Below w0.heap.size w0 wr) (fun i _ => 32 - (intOf i).toNat)
  case atStart => exact ⟨0, by omega, rfl, fun j hj => by omega, Below.refl _ _⟩
  case round =>
    obtain ⟨k, hk, rfl, hj, hb⟩ := hrel
    have rx1 := rx.below hb rx.lt
    have ry1 := ry.below hb ry.lt
    have hB : Below w.heap.size w wr := b0.trans (hb.mono b0.size)
    by_cases hlt : k < 32
    · have gx := hx.2.gi k
      have gy := hy.2.gi k
      have cx : wr.cell? ⟨w.heap.size, k, none⟩ = some (.int .u8 (gi x k)) := rx1.cell8 (by rw [hx.1]; exact hlt)
      have cy : wr.cell? ⟨w.heap.size + 1, k, none⟩ = some (.int .u8 (gi y k)) := ry1.cell8 (by rw [hy.1]; exact hlt)
      go_wp2
      refine wp_region_quiet_tail 6 (by kernel_rfl) (by kernel_rfl) ?_
      simp only [List.take_succ_cons, List.take_zero, List.drop_succ_cons, List.drop_zero]
      repeat (go_big_quiet_step (fail))
      refine wpQuiet_nil ?_
      rintro _ ⟨nq, rfl⟩
      by_cases he : gi x k = gi y k
      · go_wp2
        go_roundw
        case rel => exact ⟨k + 1, by omega, by go_num, fun j hjk => by
          by_cases e : j = k
          · subst e; exact he
          · exact hj j (by omega), below_drewN hb nq⟩
        case measure => simp [intOf]; omega
      · have hm := lex_at k x y hx.2 hy.2 (by rw [hx.1, hy.1]) (by rw [hx.1]; exact hlt) hj he
        have hd : decide (num x < num y) = decide (gi x k < gi y k) := by
          by_cases h : gi x k < gi y k
          · have := hm.2 h; simp [h, this]
          · have : ¬ num x < num y := fun h' => h (hm.1 h'); simp only [h, this]
        have he' : (gi x k != gi y k) = true := by simpa using he
        have he'' : (gi x k == gi y k) = false := by simpa using he
        go_wp2
        refine wp_region_quiet_tail 6 (by kernel_rfl) (by kernel_rfl) ?_
        simp only [List.take_succ_cons, List.take_zero, List.drop_succ_cons, List.drop_zero]
        repeat (go_big_quiet_step (fail))
        refine wpQuiet_nil ?_
        rintro _ ⟨mq, rfl⟩
        go_wp2
        go_ret
        exact ⟨by rw [hd]; rfl, below_drewN hB (nq + mq)⟩
    · obtain rfl : k = 32 := by omega
      have e := eq_of_gi hx hy hj
      subst e
      go_wp2
      go_ret
      exact ⟨by simp, hB⟩
end Go.Proofs.Ytkmhnpkkkhglpaa
