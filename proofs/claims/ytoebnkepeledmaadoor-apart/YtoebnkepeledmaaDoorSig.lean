/- What turn, the four sigmas and the reference's rot answer: the plain functions of the Math text, the world as it was; for every word. -/
import Derived.Test.YtoebnkepeledmaaDoorProg
import Derived.Test.YtoebnkepeledmaaDoorMath
import Derived.WalkKit
import Derived.WalkSpells
import Derived.WalkLawsBesides
namespace Go.Proofs.YtoebnkepeledmaaDoor
open Go.RowKit

theorem ret_u32 {a b : Int} (h : a = b) : Ending.returned (.int .u32 a) = .returned (.int .u32 b) := by rw [h]

set_option maxHeartbeats 400000 in
theorem rotl_any (x : Int) (n : Nat) (w : World) (h1 : 1 ≤ n) (h2 : n ≤ 31) :
    Calls Tryd.prog 80 #[.int .u32 x, .int .i64 (-(n : Int))] w fun e w' => e = .returned (.int .u32 (rotr n x)) ∧ w' = w := by
  have hA := and_u64_31 n h1 h2
  go_enter Tryd.func80, Tryd.ntmps80
  go_wp2
  go_ret
  exact ⟨ret_u32 (by unfold rotr; rw [show 32 - (32 - n) = n by omega]), rfl⟩

set_option maxHeartbeats 400000 in
theorem turn_any (x : Int) (n : Nat) (w : World) (h1 : 1 ≤ n) (h2 : n ≤ 31) :
    Calls Tryd.prog 79 #[.int .u32 x, .int .i64 n] w fun e w' => e = .returned (.int .u32 (rotr n x)) ∧ w' = w := by
  go_enter Tryd.func79, Tryd.ntmps79
  go_wp2_with (go_at_call 80; refine (rotl_any x n _ h1 h2).mono ?_; rintro e w' ⟨rfl, rfl⟩)
  go_ret
  exact ⟨rfl, rfl⟩

set_option maxHeartbeats 400000 in
theorem turn_c (x c : Int) (w : World) (h1 : 1 ≤ c) (h2 : c ≤ 31) :
    Calls Tryd.prog 79 #[.int .u32 x, .int .i64 c] w fun e w' => e = .returned (.int .u32 (rotr c.toNat x)) ∧ w' = w := by
  have h := turn_any x c.toNat w (by omega) (by omega)
  rwa [Int.toNat_of_nonneg (by omega)] at h

set_option maxHeartbeats 400000 in
theorem bsig1_any (x : Int) (w : World) :
    Calls Tryd.prog 75 #[.int .u32 x] w fun e w' => e = .returned (.int .u32 (bsig1 x)) ∧ w' = w := by
  go_enter Tryd.func75, Tryd.ntmps75
  go_wp2_with (go_at_call 79; refine (turn_c x _ _ (by decide) (by decide)).mono ?_; rintro e w' ⟨rfl, rfl⟩)
  go_ret
  exact ⟨rfl, rfl⟩

set_option maxHeartbeats 400000 in
theorem bsig0_any (x : Int) (w : World) :
    Calls Tryd.prog 76 #[.int .u32 x] w fun e w' => e = .returned (.int .u32 (bsig0 x)) ∧ w' = w := by
  go_enter Tryd.func76, Tryd.ntmps76
  go_wp2_with (go_at_call 79; refine (turn_c x _ _ (by decide) (by decide)).mono ?_; rintro e w' ⟨rfl, rfl⟩)
  go_ret
  exact ⟨rfl, rfl⟩

set_option maxHeartbeats 400000 in
theorem ssig1_any (x : Int) (w : World) :
    Calls Tryd.prog 77 #[.int .u32 x] w fun e w' => e = .returned (.int .u32 (ssig1 x)) ∧ w' = w := by
  go_enter Tryd.func77, Tryd.ntmps77
  go_wp2_with (go_at_call 79; refine (turn_c x _ _ (by decide) (by decide)).mono ?_; rintro e w' ⟨rfl, rfl⟩)
  go_ret
  exact ⟨rfl, rfl⟩

set_option maxHeartbeats 400000 in
theorem ssig0_any (x : Int) (w : World) :
    Calls Tryd.prog 78 #[.int .u32 x] w fun e w' => e = .returned (.int .u32 (ssig0 x)) ∧ w' = w := by
  go_enter Tryd.func78, Tryd.ntmps78
  go_wp2_with (go_at_call 79; refine (turn_c x _ _ (by decide) (by decide)).mono ?_; rintro e w' ⟨rfl, rfl⟩)
  go_ret
  exact ⟨rfl, rfl⟩

theorem or32_comm (a b : Int) : bits .or .u32 a b = bits .or .u32 b a := by
  unfold bits; simp only [BitVec.or_comm]

set_option maxHeartbeats 400000 in
theorem rot_any (x : Int) (n : Nat) (w : World) (h1 : 1 ≤ n) (h2 : n ≤ 31) :
    Calls Tryd.prog 61 #[.int .u32 x, .int .u64 n] w fun e w' => e = .returned (.int .u32 (rotr n x)) ∧ w' = w := by
  go_enter Tryd.func61, Tryd.ntmps61
  go_wp2
  go_ret
  exact ⟨ret_u32 (by unfold rotr; rw [or32_comm]), rfl⟩

theorem rot_c (x c : Int) (w : World) (h1 : 1 ≤ c) (h2 : c ≤ 31) :
    Calls Tryd.prog 61 #[.int .u32 x, .int .u64 c] w fun e w' => e = .returned (.int .u32 (rotr c.toNat x)) ∧ w' = w := by
  have h := rot_any x c.toNat w (by omega) (by omega)
  rwa [Int.toNat_of_nonneg (by omega)] at h
end Go.Proofs.YtoebnkepeledmaaDoor
