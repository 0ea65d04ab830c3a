/- How many levels so many bytes ask: the program's function and the reference's; a number's bytes into a row. No old memory turns but that row. -/
import Derived.Test.YtgcffdnbihfghaaBMath
namespace Go.Proofs.Ytgcffdnbihfghaa
open Go Go.RowKit

set_option maxRecDepth 20000 in
set_option maxHeartbeats 1000000 in
theorem levels_any (s : Int) (w : World) (hs : s ≤ 2097152) :
    Calls Try.prog 47 #[.int .i64 s] w fun e w' => e = .returned (.int .i64 (lvl s)) ∧ w' = w := by
  go_enter Try.func47, Try.ntmps47
  go_wp2
  go_loop [3, 4] (fun n m => ∃ k : Nat, k ≤ 5 ∧ n = .int .i64 k ∧ m = .int .i64 (roomN k) ∧ ∀ j, j < k → roomN j < s) (fun n _ => 5 - (intOf n).toNat)
  case atStart => exact ⟨0, by omega, rfl, rfl, fun j hj => by omega⟩
  case round =>
    obtain ⟨k, hk, rfl, rfl, h1⟩ := hrel
    by_cases h2 : roomN k < s
    · obtain ⟨h3, h4, h5⟩ := room_next hs hk h1 h2
      have h6 := room_small hk
      generalize roomN k = r at *
      go_wp2
      go_round
      case rel => exact ⟨k + 1, by omega, by go_num, by rw [← h5], h4⟩
      case measure => simp [intOf]; omega
    · have h3 := room_lvl hs hk h1 (by omega)
      have h6 := room_small hk
      generalize roomN k = r at *
      go_wp2
      go_ret
      exact ⟨rfl, rfl⟩
set_option maxRecDepth 20000 in
set_option maxHeartbeats 1000000 in
theorem rlevels_any (s : Int) (w : World) (hs : s ≤ 2097152) :
    Calls Try.prog 30 #[.int .i64 s] w fun e w' => e = .returned (.int .i64 (lvl s)) ∧ w' = w := by
  go_enter Try.func30, Try.ntmps30
  go_wp2
  go_loop [3, 4] (fun n m => ∃ k : Nat, k ≤ 5 ∧ n = .int .i64 k ∧ m = .int .i64 (roomN k) ∧ ∀ j, j < k → roomN j < s) (fun n _ => 5 - (intOf n).toNat)
  case atStart => exact ⟨0, by omega, rfl, rfl, fun j hj => by omega⟩
  case round =>
    obtain ⟨k, hk, rfl, rfl, h1⟩ := hrel
    by_cases h2 : roomN k < s
    · obtain ⟨h3, h4, h5⟩ := room_next hs hk h1 h2
      have h6 := room_small hk
      generalize roomN k = r at *
      go_wp2
      go_round
      case rel => exact ⟨k + 1, by omega, by go_num, by rw [← h5], h4⟩
      case measure => simp [intOf]; omega
    · have h3 := room_lvl hs hk h1 (by omega)
      have h6 := room_small hk
      generalize roomN k = r at *
      go_wp2
      go_ret
      exact ⟨rfl, rfl⟩
end Go.Proofs.Ytgcffdnbihfghaa
