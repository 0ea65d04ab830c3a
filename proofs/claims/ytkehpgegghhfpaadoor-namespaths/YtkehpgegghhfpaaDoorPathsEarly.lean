/- NamesPaths returns true at once where it is handed too much. -/
import Derived.Test.YtkehpgegghhfpaaDoorKnown
namespace Go.Proofs.YtkehpgegghhfpaaDoor
open Go.RowKit

set_option maxRecDepth 20000 in
set_option maxHeartbeats 1000000 in
theorem paths_early (s piece : ByteArray) (p1 p2 : Option Addr) (l1 c1 l2 c2 : Nat) (at' : Int) (w : World) (hm : MaxOk w) (h : 500 < s.size ∨ 100 < piece.size ∨ 10 < l2 ∨ 10 < l1) :
    Calls Tryd.prog 4 #[.string s, .slice p1 l1 c1, .string piece, .int .i64 at', .slice p2 l2 c2] w fun e w' => e = .returned (.bool true) ∧ Below w.heap.size w w' := by
  by_cases h1 : 500 < s.size
  · have q1 : decide ((500 : Int) < (s.size : Int)) = true := by simp; omega
    clear h
    go_enter Tryd.func4, Tryd.ntmps4
    go_wp2_with (first | (go_at_call 8; (with_reducible refine Calls.mono (known_any _ hm) ?_); rintro e w1 ⟨rfl, hb1⟩))
    go_ret
    exact ⟨rfl, hb1⟩
  have q1 : decide ((500 : Int) < (s.size : Int)) = false := by simp; omega
  by_cases h2 : 100 < piece.size
  · have q2 : decide ((100 : Int) < (piece.size : Int)) = true := by simp; omega
    clear h
    go_enter Tryd.func4, Tryd.ntmps4
    go_wp2_with (first | (go_at_call 8; (with_reducible refine Calls.mono (known_any _ hm) ?_); rintro e w1 ⟨rfl, hb1⟩))
    go_ret
    exact ⟨rfl, hb1⟩
  have q2 : decide ((100 : Int) < (piece.size : Int)) = false := by simp; omega
  by_cases h3 : 10 < l2
  · have q3 : decide ((10 : Int) < (l2 : Int)) = true := by simp; omega
    clear h
    go_enter Tryd.func4, Tryd.ntmps4
    go_wp2_with (first | (go_at_call 8; (with_reducible refine Calls.mono (known_any _ hm) ?_); rintro e w1 ⟨rfl, hb1⟩))
    go_ret
    exact ⟨rfl, hb1⟩
  have q3 : decide ((10 : Int) < (l2 : Int)) = false := by simp; omega
  have q4 : decide ((10 : Int) < (l1 : Int)) = true := by simp; omega
  clear h
  go_enter Tryd.func4, Tryd.ntmps4
  go_wp2_with (first | (go_at_call 8; (with_reducible refine Calls.mono (known_any _ hm) ?_); rintro e w1 ⟨rfl, hb1⟩))
  go_ret
  exact ⟨rfl, hb1⟩
end Go.Proofs.YtkehpgegghhfpaaDoor
