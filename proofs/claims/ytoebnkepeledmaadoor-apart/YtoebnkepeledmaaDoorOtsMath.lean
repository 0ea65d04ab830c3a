/- Signatures for once over lists of bytes: steps, chains, keys, digits, signatures, and where a signature leads back to; S is the hash. No condition. -/
import Derived.Test.YtoebnkepeledmaaDoorMath
namespace Go.Proofs.YtoebnkepeledmaaDoor
open Go

def n4 (q : Int) : List Int := [q / 16777216 % 256, q / 65536 % 256, q / 256 % 256, q % 256]
def n2 (i : Int) : List Int := [i / 256 % 256, i % 256]
def stepL (S : List Int → List Int) (H : List Int) (i j : Int) (t : List Int) : List Int := S (H ++ n2 i ++ [j] ++ t)
def walkL (S : List Int → List Int) (H : List Int) (i : Int) (a : Nat) : Nat → List Int → List Int
  | 0, t => t
  | k + 1, t => stepL S H i ((a + k : Nat) : Int) (walkL S H i a k t)
def catN (f : Nat → List Int) : Nat → List Int
  | 0 => []
  | k + 1 => catN f k ++ f k
def xL (S : List Int → List Int) (H seed : List Int) (i : Int) : List Int := stepL S H i 255 seed
def yL (S : List Int → List Int) (H seed : List Int) (i : Nat) : List Int := walkL S H i 0 3 (xL S H seed i)
def topL (S : List Int → List Int) (H : List Int) (f : Nat → List Int) : List Int := S (H ++ [128, 128] ++ catN f 133)
def pubL (S : List Int → List Int) (H seed : List Int) : List Int := topL S H (yL S H seed)
def saltL (S : List Int → List Int) (H seed : List Int) : List Int := stepL S H 65533 255 seed
def textL (S : List Int → List Int) (H c msg : List Int) : List Int := S (H ++ [129, 129] ++ c ++ msg)
def digN (b : List Int) (i : Nat) : Int := gi b (i / 4) / 2 ^ (6 - 2 * (i % 4)) % 4
def sumN (b : List Int) : Nat → Int
  | 0 => 0
  | k + 1 => sumN b k + (3 - digN b k)
def fullL (Q : List Int) : List Int := Q ++ n2 (64 * sumN Q 128)
def digsL (Q : List Int) : List Int := (List.range 133).map (digN (fullL Q))
def zL (S : List Int → List Int) (H seed Q : List Int) (i : Nat) : List Int := walkL S H i 0 (digN (fullL Q) i).toNat (xL S H seed i)
def sigL (S : List Int → List Int) (H seed msg : List Int) : List Int := n4 2 ++ saltL S H seed ++ catN (zL S H seed (textL S H (saltL S H seed) msg)) 133
def cutL (sig : List Int) (at_ : Nat) : List Int := (sig.drop at_).take 32
def wL (S : List Int → List Int) (H Q sig : List Int) (i : Nat) : List Int := walkL S H i (digN (fullL Q) i).toNat (3 - (digN (fullL Q) i).toNat) (cutL sig (36 + 32 * i))
def backL (S : List Int → List Int) (H msg sig : List Int) : List Int := topL S H (wL S H (textL S H (cutL sig 4) msg) sig)
def signed (sig : List Int) : Prop := sig.length = 4292 ∧ sig.take 4 = n4 2
instance (sig : List Int) : Decidable (signed sig) := inferInstanceAs (Decidable (_ ∧ _))

theorem n4_len (q : Int) : (n4 q).length = 4 := rfl
theorem n2_len (q : Int) : (n2 q).length = 2 := rfl
theorem digN_range (b : List Int) (i : Nat) : 0 ≤ digN b i ∧ digN b i < 4 := by unfold digN; omega
theorem digN_nat (b : List Int) (i : Nat) : ((digN b i).toNat : Int) = digN b i ∧ (digN b i).toNat < 4 := by have := digN_range b i; omega
theorem sumN_range (b : List Int) : ∀ k, 0 ≤ sumN b k ∧ sumN b k ≤ 3 * (k : Int)
  | 0 => by simp [sumN]
  | k + 1 => by
    have h1 := sumN_range b k
    have h2 := digN_range b k
    simp only [sumN]
    omega
theorem digN_front (b c : List Int) (i : Nat) (h : i / 4 < b.length) : digN (b ++ c) i = digN b i := by
  unfold digN gi; simp only [List.getD_eq_getElem?_getD, List.getElem?_append_left h]
theorem sumN_front (b c : List Int) : ∀ k, k ≤ 4 * b.length → sumN (b ++ c) k = sumN b k
  | 0, _ => rfl
  | k + 1, h => by
    simp only [sumN]
    rw [sumN_front b c k (by omega), digN_front b c k (by omega)]
theorem walkL_len {S : List Int → List Int} (hS : ∀ l, (S l).length = 32) (H : List Int) (i : Int) (a : Nat) (t : List Int) (ht : t.length = 32) : ∀ k, (walkL S H i a k t).length = 32
  | 0 => ht
  | _ + 1 => hS _
theorem walkL_add (S : List Int → List Int) (H : List Int) (i : Int) (a b : Nat) (t : List Int) : ∀ c, walkL S H i (a + b) c (walkL S H i a b t) = walkL S H i a (b + c) t
  | 0 => rfl
  | c + 1 => by
    rw [show b + (c + 1) = (b + c) + 1 by omega]
    simp only [walkL]
    rw [walkL_add S H i a b t c, Nat.add_assoc]
theorem catN_len {f : Nat → List Int} (hf : ∀ i, (f i).length = 32) : ∀ k, (catN f k).length = 32 * k
  | 0 => rfl
  | k + 1 => by rw [catN, List.length_append, catN_len hf k, hf k]; omega
theorem catN_congr {f g : Nat → List Int} : ∀ k, (∀ i, i < k → f i = g i) → catN f k = catN g k
  | 0, _ => rfl
  | k + 1, h => by rw [catN, catN, catN_congr k (fun i hi => h i (by omega)), h k (by omega)]
theorem catN_cut {f : Nat → List Int} (hf : ∀ i, (f i).length = 32) : ∀ (n k : Nat), k < n → ((catN f n).drop (32 * k)).take 32 = f k
  | 0, k, h => by omega
  | n + 1, k, h => by
    rw [catN]
    have hl := catN_len hf n
    by_cases e : k = n
    · subst e
      rw [List.drop_append, hl, Nat.sub_self, List.drop_of_length_le (by omega)]
      simp only [List.nil_append, List.drop_zero]
      exact List.take_of_length_le (by rw [hf k]; omega)
    · rw [List.drop_append_of_le_length (by omega), List.take_append_of_le_length (by simp; omega)]
      exact catN_cut hf n k (by omega)
theorem xL_len {S : List Int → List Int} (hS : ∀ l, (S l).length = 32) (H seed : List Int) (i : Int) : (xL S H seed i).length = 32 := hS _
theorem yL_len {S : List Int → List Int} (hS : ∀ l, (S l).length = 32) (H seed : List Int) (i : Nat) : (yL S H seed i).length = 32 := hS _
theorem zL_len {S : List Int → List Int} (hS : ∀ l, (S l).length = 32) (H seed Q : List Int) (i : Nat) : (zL S H seed Q i).length = 32 := walkL_len hS _ _ _ _ (hS _) _
theorem digsL_len (Q : List Int) : (digsL Q).length = 133 := by simp [digsL]
theorem digsL_at (Q : List Int) (i : Nat) (h : i < 133) : gi (digsL Q) i = digN (fullL Q) i := by simp [gi, digsL, h]
theorem sigL_len {S : List Int → List Int} (hS : ∀ l, (S l).length = 32) (H seed msg : List Int) : (sigL S H seed msg).length = 4292 := by
  unfold sigL saltL stepL
  rw [List.length_append, List.length_append, n4_len, hS, catN_len (zL_len hS H seed _)]
theorem sigL_salt {S : List Int → List Int} (hS : ∀ l, (S l).length = 32) (H seed msg : List Int) : cutL (sigL S H seed msg) 4 = saltL S H seed := by
  unfold sigL cutL
  rw [List.append_assoc, List.drop_append_of_le_length (by simp [n4]), List.drop_of_length_le (by simp [n4]), List.nil_append]
  exact List.take_left' (hS _)
theorem sigL_type (S : List Int → List Int) (H seed msg : List Int) : (sigL S H seed msg).take 4 = n4 2 := by
  unfold sigL
  rw [List.append_assoc]
  exact List.take_left' rfl
theorem sigL_chain {S : List Int → List Int} (hS : ∀ l, (S l).length = 32) (H seed msg : List Int) (i : Nat) (hi : i < 133) : cutL (sigL S H seed msg) (36 + 32 * i) = zL S H seed (textL S H (saltL S H seed) msg) i := by
  unfold sigL cutL
  have hl : (n4 2 ++ saltL S H seed).length = 36 := by rw [List.length_append, n4_len]; unfold saltL stepL; rw [hS]
  rw [List.drop_append, hl, List.drop_of_length_le (by omega), List.nil_append, show 36 + 32 * i - 36 = 32 * i by omega]
  exact catN_cut (zL_len hS _ _ _) 133 i hi
theorem signed_sig {S : List Int → List Int} (hS : ∀ l, (S l).length = 32) (H seed msg : List Int) : signed (sigL S H seed msg) := ⟨sigL_len hS H seed msg, sigL_type S H seed msg⟩
/-- What was signed leads back to its key. -/
theorem back_sig {S : List Int → List Int} (hS : ∀ l, (S l).length = 32) (H seed msg : List Int) : backL S H msg (sigL S H seed msg) = pubL S H seed := by
  unfold backL pubL topL
  rw [sigL_salt hS]
  rw [catN_congr (f := wL S H (textL S H (saltL S H seed) msg) (sigL S H seed msg)) (g := yL S H seed) 133 (fun i hi => ?_)]
  unfold wL yL
  rw [sigL_chain hS H seed msg i hi]
  unfold zL
  have h := (digN_nat (fullL (textL S H (saltL S H seed) msg)) i).2
  have := walkL_add S H i 0 (digN (fullL (textL S H (saltL S H seed) msg)) i).toNat (xL S H seed i) (3 - (digN (fullL (textL S H (saltL S H seed) msg)) i).toNat)
  rw [Nat.zero_add] at this
  rw [this, show (digN (fullL (textL S H (saltL S H seed) msg)) i).toNat + (3 - (digN (fullL (textL S H (saltL S H seed) msg)) i).toNat) = 3 by omega]
end Go.Proofs.YtoebnkepeledmaaDoor
