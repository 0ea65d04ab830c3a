/- What is read of bytes, part by part: no program in it. -/
import Derived.Test.YtcdmjjlbeifgjaaRmodel
namespace Go.Proofs.Ytcdmjjlbeifgjaa

def predRE (l : List Int) : Int := if l.head? = some 255 then 0 else numRE 0 l
def predRV (l : List Int) : Int := if l.head? = some 255 then -1 else numRV 0 l
def nodesRE : Nat → List Int → Int
  | 0, _ => 0
  | n + 1, l => if numRE 0 l = 0 then nodesRE n (l.drop 1) else numRE 0 l
def nodesRV : Nat → List Int → List Int
  | 0, _ => []
  | n + 1, l => numRV 0 l :: nodesRV n (l.drop 1)
def listRE (l : List Int) : Int := if numRE 1 l = 0 then nodesRE (numRV 1 l).toNat (l.drop 1) else numRE 1 l
def listRV (l : List Int) : List Int := nodesRV (numRV 1 l).toNat (l.drop 1)
def dataRE (l : List Int) : Int := if numRE 2 l = 0 then (if (l.drop 2).length < (numRV 2 l).toNat then 8 else 0) else numRE 2 l
def dataRV (l : List Int) : List Int := (l.drop 2).take (numRV 2 l).toNat
theorem nodesRV_len : ∀ (n : Nat) (l : List Int), (nodesRV n l).length = n
  | 0, _ => rfl
  | n + 1, l => by rw [nodesRV, List.length_cons, nodesRV_len n]
theorem nodesRV_snoc : ∀ (n : Nat) (l : List Int), nodesRV (n + 1) l = nodesRV n l ++ [numRV 0 (l.drop n)]
  | 0, l => by simp [nodesRV]
  | n + 1, l => by
    rw [nodesRV, nodesRV_snoc n (l.drop 1)]
    simp [nodesRV]
theorem nodesRE_snoc : ∀ (n : Nat) (l : List Int), nodesRE n l = 0 → nodesRE (n + 1) l = numRE 0 (l.drop n)
  | 0, l, _ => by
    rw [nodesRE]
    split
    · rename_i h; rw [List.drop_zero, h]; rfl
    · rfl
  | n + 1, l, h => by
    rw [nodesRE] at h ⊢
    split
    · rename_i h1
      rw [if_pos h1] at h
      have := nodesRE_snoc n (l.drop 1) h
      rw [this, List.drop_drop, Nat.add_comm]
    · rename_i h1; rw [if_neg h1] at h; exact absurd h h1
theorem nodesRE_stop : ∀ (n k : Nat) (l : List Int), k < n → nodesRE k l = 0 → numRE 0 (l.drop k) ≠ 0 → nodesRE n l = numRE 0 (l.drop k)
  | 0, k, l, h, _, _ => by omega
  | n + 1, 0, l, _, _, h => by
    rw [List.drop_zero] at h ⊢
    rw [nodesRE, if_neg h]
  | n + 1, k + 1, l, hk, h0, h => by
    rw [nodesRE] at h0 ⊢
    split
    · rename_i h1
      rw [if_pos h1] at h0
      have := nodesRE_stop n k (l.drop 1) (by omega) h0 (by rw [List.drop_drop, Nat.add_comm]; exact h)
      rw [this, List.drop_drop, Nat.add_comm]
    · rename_i h1; rw [if_neg h1] at h0; exact absurd h0 h1
theorem numRV_bound (f : Int) (l : List Int) : 0 ≤ numRV f l ∧ numRV f l ≤ 6000 := by
  unfold numRV
  split
  · rename_i h
    have h1 := blo_nonneg f
    have h2 := bhi_le f
    unfold numRE at h
    split at h
    · cases h
    · split at h
      · cases h
      · omega
  · omega
end Go.Proofs.Ytcdmjjlbeifgjaa
