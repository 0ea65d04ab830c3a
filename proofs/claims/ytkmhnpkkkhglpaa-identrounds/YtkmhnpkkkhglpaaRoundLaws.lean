/- What going round says of three unlike ids. No condition. -/
import Derived.Test.YtkmhnpkkkhglpaaNear
import Derived.Test.YtkmhnpkkkhglpaaKnown
import Derived.Test.YtkmhnpkkkhglpaaOrderSame
namespace Go.Proofs.Ytkmhnpkkkhglpaa
open Go.RowKit

theorem btw_of {a x b : List Int} (h : a ≠ b) : btw a x b = (if num a < num b then decide (num a < num x) && decide (num x < num b) else decide (num a < num x) || decide (num x < num b)) := by
  unfold btw; rw [if_neg h]
theorem btw_laws {a b c : List Int} (ha : Id32 a) (hb : Id32 b) (hc : Id32 c) (n1 : a ≠ b) (n2 : b ≠ c) (n3 : a ≠ c) :
    btw a c b = !btw a b c ∧ btw b c a = btw a b c ∧ btw c a b = btw a b c ∧ btw a a b = false ∧ btw a b b = false ∧ win a b b = true ∧ btw a b a = true := by
  have m1 : num a ≠ num b := fun h => n1 ((ha.inj hb).1 h)
  have m2 : num b ≠ num c := fun h => n2 ((hb.inj hc).1 h)
  have m3 : num a ≠ num c := fun h => n3 ((ha.inj hc).1 h)
  have hw : win a b b = true := by simp [win]
  have hs : btw a b a = true := by simp [btw, Ne.symm n1]
  rw [btw_of n1, btw_of n3, btw_of n1.symm, btw_of n2.symm, btw_of n1, btw_of n1, hw, hs]
  generalize num a = x at *
  generalize num b = y at *
  generalize num c = z at *
  have o1 : x < y ∨ y < x := by omega
  have o2 : y < z ∨ z < y := by omega
  have o3 : x < z ∨ z < x := by omega
  have irr : ∀ t : Int, decide (t < t) = false := fun t => by simp
  rcases o1 with o1 | o1 <;> rcases o2 with o2 | o2 <;> rcases o3 with o3 | o3
  all_goals
    have p1 := o1
    have p2 := o2
    have p3 := o3
    have r1 := Int.lt_asymm p1
    have r2 := Int.lt_asymm p2
    have r3 := Int.lt_asymm p3
    first
      | (exfalso; omega)
      | simp [p1, p2, p3, r1, r2, r3]
end Go.Proofs.Ytkmhnpkkkhglpaa
