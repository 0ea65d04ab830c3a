/- The name of a key, copied byte by byte: the plain side. -/
import Derived.Test.YtoebnkepeledmaaDoorGa
namespace Go.Proofs.YtoebnkepeledmaaDoor
open Go Go.RowKit

def namN (P : List Int) : Nat → List Int
  | 0 => List.replicate 16 0
  | k + 1 => (namN P k).set k (gi P (8 + k))
theorem namN_len (P : List Int) : ∀ k, (namN P k).length = 16
  | 0 => by simp [namN]
  | k + 1 => by simp only [namN, List.length_set]; exact namN_len P k
theorem namN_at (P : List Int) : ∀ k, k ≤ 16 → ∀ j, j < k → (namN P k)[j]? = some (gi P (8 + j))
  | 0, _, j, hj => absurd hj (by omega)
  | k + 1, hk, j, hj => by
    simp only [namN, List.getElem?_set, namN_len]
    by_cases h : k = j
    · subst h; simp; omega
    · simp only [h, if_false]; exact namN_at P k (by omega) j (by omega)
theorem namN_all (P : List Int) (hP : P.length = 56) : namN P 16 = (P.drop 8).take 16 := by
  apply List.ext_getElem?
  intro j
  by_cases hj : j < 16
  · rw [namN_at P 16 (Nat.le_refl _) j hj, List.getElem?_take_of_lt hj, List.getElem?_drop]
    simp only [gi, List.getD]
    rw [List.getElem?_eq_getElem (show 8 + j < P.length by omega)]; rfl
  · rw [List.getElem?_eq_none (by rw [namN_len]; omega), List.getElem?_eq_none (by simp; omega)]
end Go.Proofs.YtoebnkepeledmaaDoor
