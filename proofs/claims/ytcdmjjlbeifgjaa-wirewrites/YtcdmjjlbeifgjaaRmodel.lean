/- What is read of bytes, as plain lists: no program in it. -/
import Derived.Test.YtcdmjjlbeifgjaaModel
namespace Go.Proofs.Ytcdmjjlbeifgjaa

/-- A number out of its bytes, the highest first. -/
def beV : List Int → Int → Int
  | [], n => n
  | x :: l, n => beV l (n * 256 + x)
def valR (f : Int) (l : List Int) : Int := beV (l.take (bsz f)) 0
def numRE (f : Int) (l : List Int) : Int := if l.length < bsz f then 8 else if valR f l < blo f ∨ bhi f < valR f l then 11 else 0
def numRV (f : Int) (l : List Int) : Int := if numRE f l = 0 then valR f l else 0
theorem beV_snoc (l : List Int) (n x : Int) : beV (l ++ [x]) n = beV l n * 256 + x := by
  induction l generalizing n with
  | nil => rfl
  | cons y l ih => exact ih _
theorem beV_bound : ∀ (l : List Int) (n : Int), (∀ x ∈ l, 0 ≤ x ∧ x < 256) → 0 ≤ n → 0 ≤ beV l n ∧ beV l n < (n + 1) * 256 ^ l.length
  | [], n, _, h => by simp [beV]; omega
  | x :: l, n, hx, h => by
    have h1 := hx x (by simp)
    have := beV_bound l (n * 256 + x) (fun y hy => hx y (by simp [hy])) (by omega)
    refine ⟨this.1, ?_⟩
    show beV l (n * 256 + x) < _
    rw [List.length_cons, Int.pow_succ]
    have h2 : (n * 256 + x + 1) * 256 ^ l.length ≤ ((n + 1) * 256) * 256 ^ l.length := Int.mul_le_mul_of_nonneg_right (by omega) (by exact Int.pow_nonneg (by decide))
    have h3 : (n + 1) * 256 * 256 ^ l.length = (n + 1) * (256 ^ l.length * 256) := by rw [Int.mul_assoc, Int.mul_comm 256]
    omega
end Go.Proofs.Ytcdmjjlbeifgjaa
