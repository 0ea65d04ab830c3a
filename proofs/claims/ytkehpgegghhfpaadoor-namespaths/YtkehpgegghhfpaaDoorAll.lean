/- checkAll, of every list of texts: too many, else the first one's error; it turns no old memory. -/
import Derived.Test.YtkehpgegghhfpaaDoorCheck
import Derived.Test.YtkehpgegghhfpaaDoorPath
import Derived.Test.YtkehpgegghhfpaaDoorMem
namespace Go.Proofs.YtkehpgegghhfpaaDoor
open Go.RowKit

/-- The texts xs lie at the slice's address (where there is one at all). -/
def Strs (w : World) (p : Option Addr) (xs : List ByteArray) : Prop :=
  0 < xs.length → ∃ b o, p = some ⟨b, o, none⟩ ∧ ∀ j, j < xs.length → w.cell? ⟨b, o + j, none⟩ = some (.string (xs.getD j ByteArray.empty))
theorem Strs.below {w w' : World} {B : Nat} {p : Option Addr} {xs : List ByteArray} (h : Strs w p xs) (hb : Below B w w') (hB : w.heap.size ≤ B) : Strs w' p xs := fun hp => by
  obtain ⟨b, o, rfl, hc⟩ := h hp
  refine ⟨b, o, rfl, fun j hj => ?_⟩
  have h1 := hc j hj
  have h2 := block_lt_of_cell h1
  rw [hb.cell (p := ⟨b, o + j, none⟩) (by simp only at h2 ⊢; omega)]; exact h1
theorem Strs.nil (w : World) (p : Option Addr) : Strs w p [] := fun h => by simp at h
def Ls (xs : List ByteArray) : List (List UInt8) := xs.map (·.data.toList)
theorem firstE_at {xs : List ByteArray} {k : Nat} (h : k < xs.length) : firstE (Ls (xs.drop k)) = if chk (xs.getD k ByteArray.empty).data.toList ≠ 0 then chk (xs.getD k ByteArray.empty).data.toList else firstE (Ls (xs.drop (k + 1))) := by
  rw [List.drop_eq_getElem_cons h]
  simp only [Ls, List.map_cons, firstE]
  simp [List.getD_eq_getElem?_getD, h]

set_option maxRecDepth 20000 in
set_option maxHeartbeats 1000000 in
theorem all_any (xs : List ByteArray) (p : Option Addr) (c : Nat) (w : World) (hx : Strs w p xs) (hs : ∀ x ∈ xs, x.size ≤ 4611686018427387904) :
    Calls Tryd.prog 21 #[.slice p xs.length c] w fun e w' => e = .returned (.int .i64 (allE (Ls xs))) ∧ Below w.heap.size w w' := by
  have hL : (Ls xs).length = xs.length := by simp [Ls]
  unfold allE
  rw [hL]
  by_cases h5 : 5 < xs.length
  · rw [if_pos h5]
    go_enter Tryd.func21, Tryd.ntmps21
    go_wp2
    go_ret
    exact ⟨rfl, Below.refl _ _⟩
  · rw [if_neg h5]
    go_enter Tryd.func21, Tryd.ntmps21
    go_wp2
    go_loopw [11] (fun i wr => ∃ k : Nat, i = .int .i64 k ∧ k ≤ xs.length ∧ firstE (Ls (xs.drop k)) = firstE (Ls xs) ∧ Below w.heap.size w wr) (fun i _ => xs.length - (intOf i).toNat)
    case atStart => exact ⟨0, rfl, by omega, rfl, Below.refl _ _⟩
    case round =>
      obtain ⟨k, rfl, hk, hf, hb⟩ := hrel
      by_cases hlt : k < xs.length
      · obtain ⟨b, o, rfl, hc⟩ := hx.below hb (Nat.le_refl _) (by omega)
        have hcell := hc k hlt
        rw [firstE_at hlt] at hf
        have hsz : (xs.getD k ByteArray.empty).size ≤ 4611686018427387904 := by
          rw [List.getD_eq_getElem?_getD, List.getElem?_eq_getElem hlt]; exact hs _ (by simp)
        generalize xs.getD k ByteArray.empty = x at *
        have hck := fun w => check_any x w hsz
        clear hc
        by_cases hz : chk x.data.toList = 0
        · rw [if_neg (by simpa using hz)] at hf
          rw [hz] at hck
          go_wp2_with (go_at_call 11; refine (hck _).mono ?_; rintro e w1 ⟨rfl, hb1⟩)
          go_roundw
          case rel => exact ⟨k + 1, by go_num, by omega, hf, hb.trans (hb1.mono hb.size)⟩
          case measure => simp [intOf]; omega
        · rw [if_pos hz] at hf
          have hz' : (chk x.data.toList != 0) = true := by simpa using hz
          have hz2 : (chk x.data.toList == 0) = false := by simpa using hz
          go_wp2_with (go_at_call 11; refine (hck _).mono ?_; rintro e w1 ⟨rfl, hb1⟩)
          go_ret
          exact ⟨by rw [← hf]; rfl, hb.trans (hb1.mono hb.size)⟩
      · obtain rfl : k = xs.length := by omega
        have h0 : firstE (Ls (xs.drop xs.length)) = 0 := by simp [Ls, firstE]
        go_wp2
        go_ret
        exact ⟨by rw [← hf, h0]; rfl, hb⟩
end Go.Proofs.YtkehpgegghhfpaaDoor
