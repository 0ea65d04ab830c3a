/- The plain functions of the filled up end of a text, over integers. No condition. -/
import Derived.Test.YtoebnkepeledmaaDoorMath
namespace Go.Proofs.YtoebnkepeledmaaDoor
open Go

def zeros128 : List Int := List.replicate 128 0
def endBase (rs : List Int) : List Int := (spl zeros128 0 rs).set rs.length 128
def lenB (L : Int) (i : Nat) : Int := L / 2 ^ (8 * i) % 256
def endN (rs : List Int) (n : Nat) (L : Int) : Nat → List Int
  | 0 => endBase rs
  | i + 1 => (endN rs n L i).set (n - 1 - i) (lenB L i)
def endS (rs : List Int) (n : Nat) (L : Int) : List Int := endN rs n L 8
theorem endBase_length (rs : List Int) (h : rs.length ≤ 128) : (endBase rs).length = 128 := by
  unfold endBase; rw [List.length_set, spl_length _ _ _ (by simp [zeros128]; omega)]; simp [zeros128]
theorem endN_length (rs : List Int) (n : Nat) (L : Int) (h : rs.length ≤ 128) : ∀ i, (endN rs n L i).length = 128
  | 0 => endBase_length rs h
  | i + 1 => by rw [endN, List.length_set, endN_length rs n L h i]

end Go.Proofs.YtoebnkepeledmaaDoor
