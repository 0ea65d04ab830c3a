/- Laws of one message: where it is too much they return true. -/
import Derived.Test.YtcdmjjlbeifgjaaGoodMath
namespace Go.Proofs.Ytcdmjjlbeifgjaa
open Go.RowKit

set_option maxRecDepth 20000 in
set_option maxHeartbeats 1000000 in
theorem early5 (m : M) (lp dp : Option Addr) (lc dc : Nat) (w : World) (hF : Fld w m lp lc dp dc) (h1 : m.list.length ≤ 9223372036854775807) (h2 : m.data.length ≤ 9223372036854775807) (hn : ¬ (m.data.length < 8000 ∧ m.list.length < 50)) :
    Calls Try.prog 5 #[.agg (mc m lp lc dp dc)] w fun e w' => e = .returned (.bool true) ∧ Below w.heap.size w w' := by
  have hk := hF.key
  have hR0 := Row.new w 28 (mc m lp lc dp dc)
  have hF0 := hF.below ((Below.refl _ _).alloc (Nat.le_refl _) (.cells (mc m lp lc dp dc) 28))
  have hB0 : Below w.heap.size w (w.alloc (.cells (mc m lp lc dp dc) 28)) := (Below.refl _ _).alloc (Nat.le_refl _) _
  have hfew := fun w1 h => few_any m lp dp lc dc w1 h h1 h2 false (by simp; omega)
  go_enter Try.func5, Try.ntmps5
  go_wp2_with (first | (go_at_call 9; (with_reducible refine Calls.mono (known_any _) ?_); rintro e w1 ⟨rfl, hb1⟩; have hR1 := hR0.below hb1 hR0.lt; have hF1 := hF0.below hb1) | (refine load_rowW ?hw 28 (.tmp 1) (by rfl) w.heap.size (by rfl) 28 (mc m lp lc dp dc) (0, 0) _ hR1 Try.underlying28 rfl ?hi ?_; (case hw => rfl); (case hi => rw [mc_size hk]; exact info28)) | (go_at_call 10; (with_reducible refine Calls.mono (hfew _ hF1) ?_); rintro e w2 ⟨rfl, hb2⟩))
  go_ret
  exact ⟨rfl, hB0.trans ((hb1.mono hB0.size).trans (hb2.mono (Nat.le_trans hB0.size hb1.size)))⟩
set_option maxRecDepth 20000 in
set_option maxHeartbeats 1000000 in
theorem early7 (m : M) (lp dp : Option Addr) (lc dc : Nat) (w : World) (hF : Fld w m lp lc dp dc) (h1 : m.list.length ≤ 9223372036854775807) (h2 : m.data.length ≤ 9223372036854775807) (hn : ¬ (m.data.length < 8000 ∧ m.list.length < 50)) :
    Calls Try.prog 7 #[.agg (mc m lp lc dp dc)] w fun e w' => e = .returned (.bool true) ∧ Below w.heap.size w w' := by
  have hk := hF.key
  have hR0 := Row.new w 28 (mc m lp lc dp dc)
  have hF0 := hF.below ((Below.refl _ _).alloc (Nat.le_refl _) (.cells (mc m lp lc dp dc) 28))
  have hB0 : Below w.heap.size w (w.alloc (.cells (mc m lp lc dp dc) 28)) := (Below.refl _ _).alloc (Nat.le_refl _) _
  have hfew := fun w1 h => few_any m lp dp lc dc w1 h h1 h2 false (by simp; omega)
  go_enter Try.func7, Try.ntmps7
  go_wp2_with (first | (go_at_call 9; (with_reducible refine Calls.mono (known_any _) ?_); rintro e w1 ⟨rfl, hb1⟩; have hR1 := hR0.below hb1 hR0.lt; have hF1 := hF0.below hb1) | (refine load_rowW ?hw 28 (.tmp 1) (by rfl) w.heap.size (by rfl) 28 (mc m lp lc dp dc) (0, 0) _ hR1 Try.underlying28 rfl ?hi ?_; (case hw => rfl); (case hi => rw [mc_size hk]; exact info28)) | (go_at_call 10; (with_reducible refine Calls.mono (hfew _ hF1) ?_); rintro e w2 ⟨rfl, hb2⟩))
  go_ret
  exact ⟨rfl, hB0.trans ((hb1.mono hB0.size).trans (hb2.mono (Nat.le_trans hB0.size hb1.size)))⟩
set_option maxRecDepth 20000 in
set_option maxHeartbeats 1000000 in
theorem early8 (m : M) (lp dp : Option Addr) (lc dc : Nat) (w : World) (hF : Fld w m lp lc dp dc) (h1 : m.list.length ≤ 9223372036854775807) (h2 : m.data.length ≤ 9223372036854775807) (hn : ¬ (m.data.length < 8000 ∧ m.list.length < 50)) :
    Calls Try.prog 8 #[.agg (mc m lp lc dp dc)] w fun e w' => e = .returned (.bool true) ∧ Below w.heap.size w w' := by
  have hk := hF.key
  have hR0 := Row.new w 28 (mc m lp lc dp dc)
  have hF0 := hF.below ((Below.refl _ _).alloc (Nat.le_refl _) (.cells (mc m lp lc dp dc) 28))
  have hB0 : Below w.heap.size w (w.alloc (.cells (mc m lp lc dp dc) 28)) := (Below.refl _ _).alloc (Nat.le_refl _) _
  have hfew := fun w1 h => few_any m lp dp lc dc w1 h h1 h2 false (by simp; omega)
  go_enter Try.func8, Try.ntmps8
  go_wp2_with (first | (go_at_call 9; (with_reducible refine Calls.mono (known_any _) ?_); rintro e w1 ⟨rfl, hb1⟩; have hR1 := hR0.below hb1 hR0.lt; have hF1 := hF0.below hb1) | (refine load_rowW ?hw 28 (.tmp 1) (by rfl) w.heap.size (by rfl) 28 (mc m lp lc dp dc) (0, 0) _ hR1 Try.underlying28 rfl ?hi ?_; (case hw => rfl); (case hi => rw [mc_size hk]; exact info28)) | (go_at_call 10; (with_reducible refine Calls.mono (hfew _ hF1) ?_); rintro e w2 ⟨rfl, hb2⟩))
  go_ret
  exact ⟨rfl, hB0.trans ((hb1.mono hB0.size).trans (hb2.mono (Nat.le_trans hB0.size hb1.size)))⟩
end Go.Proofs.Ytcdmjjlbeifgjaa
