/- NamesBounds returns true and turns no old memory, for any number and any two bools, where MaxLen holds some number. -/
import Derived.Test.YtkehpgegghhfpaaDoorKnown
import Derived.Test.YtkehpgegghhfpaaDoorWithin
namespace Go.Proofs.YtkehpgegghhfpaaDoor
open Go.RowKit

/-- A piece, k times. -/
def rep (p : List UInt8) (k : Nat) : ByteArray := ⟨((List.replicate k p).flatten).toArray⟩
theorem rep_data (p : List UInt8) (k : Nat) : (rep p k).data.toList = (List.replicate k p).flatten := by simp [rep]
theorem rep_succ (p : List UInt8) (k : Nat) : rep p k ++ ⟨p.toArray⟩ = rep p (k + 1) := by
  apply ba_ext
  rw [cat_data, rep_data, rep_data, List.replicate_succ', List.flatten_append]
  simp
theorem rep_size (p : List UInt8) (k : Nat) : (rep p k).size = k * p.length := by
  rw [← size_data, rep_data]; simp

/-- names.Split, where the error and the number of names are known ahead. -/
theorem split_len (s : ByteArray) (N : Nat) (E : Int) (w : World) (hs : s.size < 4294967281) (hm : MaxOk w) (hE : splE s.data.toList = E) (hL : (splL s.data.toList).length = N) :
    Calls Tryd.prog 15 #[.string s] w fun e w' => ∃ (p : Option Addr) (c : Nat), e = .returned (.tuple #[.slice p N c, .int .i64 E]) ∧ N ≤ c ∧ Below w.heap.size w w' := by
  refine (split_any s w hs hm).mono ?_
  rintro e w' ⟨p, c, zs, rfl, h1, h2, h3, h4⟩
  have : zs.length = N := by rw [← hL, ← h1]; simp [Ls]
  subst this
  exact ⟨p, c, by rw [hE], h3, h4⟩

set_option maxRecDepth 20000 in
set_option maxHeartbeats 1000000 in
theorem bounds_deep (n : Int) (r : Nat) (wide : Bool) (w : World) (hm : MaxOk w) (hr : n % 4 = r) (_h4 : r < 4) (E : Int) (N : Nat) (hE : splE (rep [47, 97] (4 + r)).data.toList = E) (hL : (splL (rep [47, 97] (4 + r)).data.toList).length = N) (hg : if 1 < r then E = 4 ∧ N = 0 else E = 0 ∧ 0 < N) :
    Calls Tryd.prog 5 #[.int .i64 n, .bool wide, .bool true] w fun e w' => e = .returned (.bool true) ∧ Below w.heap.size w w' := by
  have hsp := fun w1 h => split_len (rep [47, 97] (4 + r)) N E w1 (by rw [rep_size]; simp; omega) h hE hL
  have hw10 := fun w1 => within_any n 4 w1 (by decide) (by decide)
  rw [hr] at hw10
  clear hE hL
  go_enter Tryd.func5, Tryd.ntmps5
  go_wp2_with (first | (go_at_call 8; (with_reducible refine Calls.mono (known_any _ hm) ?_); rintro e w1 ⟨rfl, hb1⟩; have hm1 := hm.below hb1 (Nat.le_refl _)) | (go_at_call 10; (with_reducible refine Calls.mono (hw10 _) ?_); rintro e w2 ⟨rfl, hw⟩; obtain rfl := hw.symm; clear hw))
  go_loop [7, 9] (fun s k => ∃ j : Nat, s = .string (rep [47, 97] j) ∧ k = .int .i64 j ∧ j ≤ 4 + r) (fun _ k => 4 + r - (intOf k).toNat)
  case atStart => exact ⟨0, rfl, rfl, by omega⟩
  case round =>
    obtain ⟨j, rfl, rfl, hj⟩ := hrel
    by_cases hlt : j < 4 + r
    · have hrep := rep_succ [47, 97] j
      have hlt' : (j : Int) < 4 + (r : Int) := by omega
      have hsz : (rep [47, 97] j).size ≤ 100 := by rw [rep_size]; simp; omega
      go_wp2
      go_round
      case rel => exact ⟨j + 1, by rw [← hrep], by go_num, by omega⟩
      case measure => simp [intOf]; omega
    · obtain rfl : j = 4 + r := by omega
      clear hlt
      by_cases h1 : 1 < r
      · rw [if_pos h1] at hg
        obtain ⟨rfl, rfl⟩ := hg
        go_wp2_with (first | (go_at_call 15; (with_reducible refine Calls.mono (hsp _ hm1) ?_); rintro e w3 ⟨p, c, rfl, hc, hb3⟩))
        go_ret
        exact ⟨rfl, hb1.trans (hb3.mono hb1.size)⟩
      · rw [if_neg h1] at hg
        obtain ⟨rfl, hN⟩ := hg
        go_wp2_with (first | (go_at_call 15; (with_reducible refine Calls.mono (hsp _ hm1) ?_); rintro e w3 ⟨p, c, rfl, hc, hb3⟩))
        go_ret
        exact ⟨rfl, hb1.trans (hb3.mono hb1.size)⟩
set_option maxRecDepth 20000 in
set_option maxHeartbeats 1000000 in
theorem bounds_wide (n : Int) (r : Nat) (w : World) (hm : MaxOk w) (hr : n % 4 = r) (_h4 : r < 4) (E : Int) (N : Nat) (hE : splE (⟨#[47]⟩ ++ rep [240, 159, 152, 128] (11 + r)).data.toList = E) (hL : (splL (⟨#[47]⟩ ++ rep [240, 159, 152, 128] (11 + r)).data.toList).length = N) (hg : if 1 < r then E = 5 ∧ N = 0 else E = 0 ∧ 0 < N) :
    Calls Tryd.prog 5 #[.int .i64 n, .bool true, .bool false] w fun e w' => e = .returned (.bool true) ∧ Below w.heap.size w w' := by
  have hz11 : (rep [240, 159, 152, 128] (11 + r)).size ≤ 100 := by rw [rep_size]; simp; omega
  have hsp := fun w1 h => split_len (⟨#[47]⟩ ++ rep [240, 159, 152, 128] (11 + r)) N E w1 (by rw [ByteArray.size_append]; have : (⟨#[47]⟩ : ByteArray).size = 1 := rfl; omega) h hE hL
  have hw10 := fun w1 => within_any n 4 w1 (by decide) (by decide)
  rw [hr] at hw10
  clear hE hL
  go_enter Tryd.func5, Tryd.ntmps5
  go_wp2_with (first | (go_at_call 8; (with_reducible refine Calls.mono (known_any _ hm) ?_); rintro e w1 ⟨rfl, hb1⟩; have hm1 := hm.below hb1 (Nat.le_refl _)) | (go_at_call 10; (with_reducible refine Calls.mono (hw10 _) ?_); rintro e w2 ⟨rfl, hw⟩; obtain rfl := hw.symm; clear hw))
  go_loop [7, 10] (fun s k => ∃ j : Nat, s = .string (rep [240, 159, 152, 128] j) ∧ k = .int .i64 j ∧ j ≤ 11 + r) (fun _ k => 11 + r - (intOf k).toNat)
  case atStart => exact ⟨0, rfl, rfl, by omega⟩
  case round =>
    obtain ⟨j, rfl, rfl, hj⟩ := hrel
    by_cases hlt : j < 11 + r
    · have hrep := rep_succ [240, 159, 152, 128] j
      have hlt' : (j : Int) < 11 + (r : Int) := by omega
      have hsz : (rep [240, 159, 152, 128] j).size ≤ 100 := by rw [rep_size]; simp; omega
      go_wp2
      go_round
      case rel => exact ⟨j + 1, by rw [← hrep], by go_num, by omega⟩
      case measure => simp [intOf]; omega
    · obtain rfl : j = 11 + r := by omega
      clear hlt
      by_cases h1 : 1 < r
      · rw [if_pos h1] at hg
        obtain ⟨rfl, rfl⟩ := hg
        go_wp2_with (first | (go_at_call 15; (with_reducible refine Calls.mono (hsp _ hm1) ?_); rintro e w3 ⟨p, c, rfl, hc, hb3⟩))
        go_ret
        exact ⟨rfl, hb1.trans (hb3.mono hb1.size)⟩
      · rw [if_neg h1] at hg
        obtain ⟨rfl, hN⟩ := hg
        go_wp2_with (first | (go_at_call 15; (with_reducible refine Calls.mono (hsp _ hm1) ?_); rintro e w3 ⟨p, c, rfl, hc, hb3⟩))
        go_ret
        exact ⟨rfl, hb1.trans (hb3.mono hb1.size)⟩

set_option maxRecDepth 20000 in
set_option maxHeartbeats 1000000 in
theorem bounds_plain (n : Int) (r : Nat) (w : World) (hm : MaxOk w) (hr : n % 4 = r) (_h4 : r < 4) (E : Int) (N : Nat) (hE : splE (⟨#[47]⟩ ++ rep [113] (11 + r)).data.toList = E) (hL : (splL (⟨#[47]⟩ ++ rep [113] (11 + r)).data.toList).length = N) (hg : if 1 < r then E = 5 ∧ N = 0 else E = 0 ∧ 0 < N) :
    Calls Tryd.prog 5 #[.int .i64 n, .bool false, .bool false] w fun e w' => e = .returned (.bool true) ∧ Below w.heap.size w w' := by
  have hz11 : (rep [113] (11 + r)).size ≤ 100 := by rw [rep_size]; simp; omega
  have hsp := fun w1 h => split_len (⟨#[47]⟩ ++ rep [113] (11 + r)) N E w1 (by rw [ByteArray.size_append]; have : (⟨#[47]⟩ : ByteArray).size = 1 := rfl; omega) h hE hL
  have hw10 := fun w1 => within_any n 4 w1 (by decide) (by decide)
  rw [hr] at hw10
  clear hE hL
  go_enter Tryd.func5, Tryd.ntmps5
  go_wp2_with (first | (go_at_call 8; (with_reducible refine Calls.mono (known_any _ hm) ?_); rintro e w1 ⟨rfl, hb1⟩; have hm1 := hm.below hb1 (Nat.le_refl _)) | (go_at_call 10; (with_reducible refine Calls.mono (hw10 _) ?_); rintro e w2 ⟨rfl, hw⟩; obtain rfl := hw.symm; clear hw))
  go_loop [7, 10] (fun s k => ∃ j : Nat, s = .string (rep [113] j) ∧ k = .int .i64 j ∧ j ≤ 11 + r) (fun _ k => 11 + r - (intOf k).toNat)
  case atStart => exact ⟨0, rfl, rfl, by omega⟩
  case round =>
    obtain ⟨j, rfl, rfl, hj⟩ := hrel
    by_cases hlt : j < 11 + r
    · have hrep := rep_succ [113] j
      have hlt' : (j : Int) < 11 + (r : Int) := by omega
      have hsz : (rep [113] j).size ≤ 100 := by rw [rep_size]; simp; omega
      go_wp2
      go_round
      case rel => exact ⟨j + 1, by rw [← hrep], by go_num, by omega⟩
      case measure => simp [intOf]; omega
    · obtain rfl : j = 11 + r := by omega
      clear hlt
      by_cases h1 : 1 < r
      · rw [if_pos h1] at hg
        obtain ⟨rfl, rfl⟩ := hg
        go_wp2_with (first | (go_at_call 15; (with_reducible refine Calls.mono (hsp _ hm1) ?_); rintro e w3 ⟨p, c, rfl, hc, hb3⟩))
        go_ret
        exact ⟨rfl, hb1.trans (hb3.mono hb1.size)⟩
      · rw [if_neg h1] at hg
        obtain ⟨rfl, hN⟩ := hg
        go_wp2_with (first | (go_at_call 15; (with_reducible refine Calls.mono (hsp _ hm1) ?_); rintro e w3 ⟨p, c, rfl, hc, hb3⟩))
        go_ret
        exact ⟨rfl, hb1.trans (hb3.mono hb1.size)⟩

theorem bounds_any (n : Int) (wide deep : Bool) (w : World) (hm : MaxOk w) : Calls Tryd.prog 5 #[.int .i64 n, .bool wide, .bool deep] w fun e w' => e = .returned (.bool true) ∧ Below w.heap.size w w' := by
  have h0 := Int.emod_nonneg n (show (4 : Int) ≠ 0 by decide)
  have h1 := Int.emod_lt_of_pos n (show (0 : Int) < 4 by decide)
  rcases (by omega : n % 4 = (0 : Nat) ∨ n % 4 = (1 : Nat) ∨ n % 4 = (2 : Nat) ∨ n % 4 = (3 : Nat)) with h | h | h | h
  all_goals
    cases deep
    · cases wide
      · exact bounds_plain n _ w hm h (by decide) _ _ rfl rfl (by decide +kernel)
      · exact bounds_wide n _ w hm h (by decide) _ _ rfl rfl (by decide +kernel)
    · exact bounds_deep n _ wide w hm h (by decide) _ _ rfl rfl (by decide +kernel)

end Go.Proofs.YtkehpgegghhfpaaDoor
