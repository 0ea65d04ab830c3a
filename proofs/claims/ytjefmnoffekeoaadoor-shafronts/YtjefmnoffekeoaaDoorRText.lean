/- The reference's text of an id: its Text answers the same 64 digits, and turns no old memory; for every 32 bytes. -/
import Derived.Test.YtjefmnoffekeoaaDoorTextsWalk
import Derived.Test.YtjefmnoffekeoaaDoorPad
namespace Go.Proofs.YtjefmnoffekeoaaDoor
open Go.RowKit

def rtextN (l : List Int) : Nat → List Int
  | 0 => []
  | k + 1 => rtextN l k ++ [hexd (gi l k / 16)] ++ [hexd (gi l k % 16)]
theorem rtextN_length (l : List Int) : ∀ k, (rtextN l k).length = 2 * k
  | 0 => rfl
  | k + 1 => by rw [rtextN, List.length_append, List.length_append, rtextN_length l k]; simp; omega
theorem strOfNums_append (xs ys : List Int) : strOfNums xs ++ strOfNums ys = strOfNums (xs ++ ys) := by
  apply ByteArray.ext
  simp [strOfNums]
def hexStr : ByteArray := ⟨#[48, 49, 50, 51, 52, 53, 54, 55, 56, 57, 97, 98, 99, 100, 101, 102]⟩
theorem hex_extract (y : Int) (h0 : 0 ≤ y) (h1 : y < 16) : hexStr.extract y.toNat (y + 1).toNat = strOfNums [hexd y] := by
  obtain rfl | rfl | rfl | rfl | rfl | rfl | rfl | rfl | rfl | rfl | rfl | rfl | rfl | rfl | rfl | rfl : y = 0 ∨ y = 1 ∨ y = 2 ∨ y = 3 ∨ y = 4 ∨ y = 5 ∨ y = 6 ∨ y = 7 ∨ y = 8 ∨ y = 9 ∨ y = 10 ∨ y = 11 ∨ y = 12 ∨ y = 13 ∨ y = 14 ∨ y = 15 := by omega
  all_goals decide +kernel
theorem rtext_at (l : List Int) : ∀ k, ∀ j, j < k → gi (rtextN l k) (2 * j) = hexd (gi l j / 16) ∧ gi (rtextN l k) (2 * j + 1) = hexd (gi l j % 16)
  | 0, j, hj => by omega
  | k + 1, j, hj => by
    have hlen := rtextN_length l k
    rw [rtextN, List.append_assoc]
    by_cases e : j = k
    · subst e
      exact ⟨by rw [gi_app_r _ (by omega), hlen, Nat.sub_self]; rfl, by rw [gi_app_r _ (by omega), hlen, show 2 * j + 1 - 2 * j = 1 by omega]; rfl⟩
    · have ih := rtext_at l k j (by omega)
      exact ⟨by rw [gi_app_l _ (by omega)]; exact ih.1, by rw [gi_app_l _ (by omega)]; exact ih.2⟩
theorem rtext_text (l : List Int) : rtextN l 32 = textS l := by
  refine eq_of_gi (by rw [rtextN_length, show (textS l).length = 64 from textN_length l 32]) (fun j hj => ?_)
  rw [rtextN_length] at hj
  have h1 := rtext_at l 32 (j / 2) (by omega)
  have h2 := textN_at l 32 (by omega) (j / 2) (by omega)
  rcases Nat.mod_two_eq_zero_or_one j with h | h
  · rw [show j = 2 * (j / 2) by omega, h1.1]; exact h2.1.symm
  · rw [show j = 2 * (j / 2) + 1 by omega, h1.2]; exact h2.2.symm

set_option maxRecDepth 20000 in
set_option maxHeartbeats 1000000 in
theorem rtext_any (l : List Int) (w : World) (hl : l.length = 32) (h8 : In8 l) :
    Calls Tryd.prog 13 #[.agg (v8 l)] w fun e w' => e = .returned (.string (strOfNums (textS l))) ∧ Below w.heap.size w w' := by
  go_enter Tryd.func13, Tryd.ntmps13
  go_wp2
  go_loopw [4, 5] (fun o i wr => ∃ k : Nat, k ≤ 32 ∧ i = .int .i64 k ∧ o = .string (strOfNums (rtextN l k)) ∧ Row wr w.heap.size 25 (v8 l) ∧ Below w.heap.size w wr) (fun _ i _ => 32 - (intOf i).toNat)
  case atStart => exact ⟨0, by omega, rfl, rfl, Row.new _ _ _, (Below.refl _ _).alloc (Nat.le_refl _) _⟩
  case round =>
    obtain ⟨k, hk, rfl, rfl, r0, hb⟩ := hrel
    by_cases hlt : k < 32
    · obtain ⟨x0, x1⟩ := h8 k
      have c0 : wr.cell? ⟨w.heap.size, k, none⟩ = some (.int .u8 (gi l k)) := r0.cell8 (by omega)
      obtain ⟨x, hx⟩ : ∃ x, x = gi l k := ⟨_, rfl⟩
      rw [← hx] at x0 x1 c0
      have HX : Hid (x = gi l k) := hx
      clear hx
      have hsz : (strOfNums (rtextN l k)).size = 2 * k := by rw [strOfNums_size, rtextN_length]
      go_wp2
      go_quiet (fail)
      go_wp2
      go_quiet (fail)
      go_wp2
      go_roundw
      case rel =>
        refine ⟨k + 1, by omega, by go_num, ?_, r0, below_drewN hb _⟩
        have e1 := hex_extract (x / 16) (by omega) (by omega)
        have e2 := hex_extract (x % 16) (by omega) (by omega)
        unfold hexStr at e1 e2
        rw [e1, e2, strOfNums_append, strOfNums_append, rtextN, HX.out]
      case measure => simp [intOf]; omega
    · obtain rfl : k = 32 := by omega
      go_wp2
      go_ret
      exact ⟨by rw [← rtext_text]; rfl, hb⟩
end Go.Proofs.YtjefmnoffekeoaaDoor
