/- Ids as numbers: the number that a row of bytes says, the highest first; one byte turned; the order byte by byte is the order of the numbers. No condition. -/
import Derived.Test.YtkmhnpkkkhglpaaDoorMem
import Derived.Lib.BytesEntry
namespace Go.Proofs.YtkmhnpkkkhglpaaDoor
open Go Go.RowKit

def InB (l : List Int) : Prop := ∀ x ∈ l, 0 ≤ x ∧ x < 256
def num : List Int → Int
  | [] => 0
  | x :: l => x * 256 ^ l.length + num l
def Id32 (l : List Int) : Prop := l.length = 32 ∧ InB l

theorem pw_pos (n : Nat) : (0 : Int) < 256 ^ n := Int.pow_pos (by decide)
theorem pw_succ (n : Nat) : (256 : Int) ^ (n + 1) = 256 * 256 ^ n := by rw [Int.pow_succ, Int.mul_comm]
theorem InB.tail {x : Int} {l : List Int} (h : InB (x :: l)) : InB l := fun y hy => h y (List.mem_cons_of_mem _ hy)
theorem InB.head {x : Int} {l : List Int} (h : InB (x :: l)) : 0 ≤ x ∧ x < 256 := h x (List.mem_cons_self ..)
theorem num_bound : ∀ (l : List Int), InB l → 0 ≤ num l ∧ num l < 256 ^ l.length
  | [], _ => by simp [num]
  | x :: l, h => by
    have ih := num_bound l h.tail
    have hx := h.head
    have hp := pw_pos l.length
    simp only [num, List.length_cons, pw_succ]
    generalize (256 : Int) ^ l.length = B at *
    have h1 : 0 ≤ x * B := Int.mul_nonneg hx.1 (by omega)
    have h2 : x * B ≤ 255 * B := Int.mul_le_mul_of_nonneg_right (by omega) (by omega)
    omega
theorem lex_lt {x y r s B : Int} (hr : 0 ≤ r ∧ r < B) (hs : 0 ≤ s ∧ s < B) (h : x < y) : x * B + r < y * B + s := by
  have h2 : (x + 1) * B ≤ y * B := Int.mul_le_mul_of_nonneg_right (by omega) (by omega)
  rw [Int.add_mul, Int.one_mul] at h2
  omega
theorem num_inj : ∀ (a b : List Int), InB a → InB b → a.length = b.length → num a = num b → a = b
  | [], [], _, _, _, _ => rfl
  | x :: a, y :: b, ha, hb, hl, h => by
    have hl' : a.length = b.length := by simpa using hl
    have h1 := num_bound a ha.tail
    have h2 := num_bound b hb.tail
    simp only [num, hl'] at h
    rw [hl'] at h1
    have hxy : x = y := by
      rcases Int.lt_trichotomy x y with hh | hh | hh
      · have := lex_lt h1 h2 hh; omega
      · exact hh
      · have := lex_lt h2 h1 hh; omega
    subst hxy
    rw [num_inj a b ha.tail hb.tail hl' (by omega)]
theorem Id32.inj {a b : List Int} (ha : Id32 a) (hb : Id32 b) : num a = num b ↔ a = b := ⟨num_inj a b ha.2 hb.2 (ha.1.trans hb.1.symm), fun h => by rw [h]⟩
theorem Id32.bound {a : List Int} (ha : Id32 a) : 0 ≤ num a ∧ num a < 256 ^ 32 := by have := num_bound a ha.2; rwa [ha.1] at this

/-- One byte turned. -/
theorem num_set : ∀ (l : List Int) (i : Nat) (x : Int), i < l.length → num (l.set i x) = num l + (x - gi l i) * 256 ^ (l.length - 1 - i)
  | [], i, x, h => by simp at h
  | y :: l, 0, x, _ => by
    simp only [List.set_cons_zero, num, gi, List.getD_cons_zero, List.length_cons, Nat.add_sub_cancel, Nat.sub_zero]
    rw [Int.sub_mul]; omega
  | y :: l, i + 1, x, h => by
    have ih := num_set l i x (by simpa using h)
    simp only [List.set_cons_succ, num, List.length_set, gi, List.getD_cons_succ, List.length_cons]
    simp only [gi] at ih
    rw [ih]
    have e : l.length + 1 - 1 - (i + 1) = l.length - 1 - i := by omega
    rw [e]; omega
theorem InB.set {l : List Int} (h : InB l) (i : Nat) {x : Int} (hx : 0 ≤ x ∧ x < 256) : InB (l.set i x) := fun y hy => by
  rcases List.mem_or_eq_of_mem_set hy with h1 | rfl
  · exact h y h1
  · exact hx
theorem Id32.set {l : List Int} (h : Id32 l) (i : Nat) {x : Int} (hx : 0 ≤ x ∧ x < 256) : Id32 (l.set i x) := ⟨by simp [h.1], h.2.set i hx⟩
theorem InB.gi {l : List Int} (h : InB l) (i : Nat) : 0 ≤ gi l i ∧ gi l i < 256 := by
  unfold YtkmhnpkkkhglpaaDoor.gi
  by_cases hj : i < l.length
  · have : l.getD i 0 = l[i] := by simp [hj]
    rw [this]; exact h _ (List.getElem_mem hj)
  · have : l.getD i 0 = 0 := by simp [List.getElem?_eq_none (show l.length ≤ i by omega)]
    rw [this]; omega

/-- The digits of a number. -/
def ofNum : Nat → Int → List Int
  | 0, _ => []
  | n + 1, v => (v / 256 ^ n) % 256 :: ofNum n v
theorem ofNum_length : ∀ n v, (ofNum n v).length = n
  | 0, _ => rfl
  | n + 1, v => by simp [ofNum, ofNum_length n v]
theorem ofNum_in8 : ∀ n v, InB (ofNum n v)
  | 0, _ => fun x hx => by cases hx
  | n + 1, v => fun x hx => by
    rcases List.mem_cons.1 hx with rfl | hx
    · omega
    · exact ofNum_in8 n v x hx
theorem num_ofNum : ∀ n v, num (ofNum n v) = v % 256 ^ n
  | 0, v => by simp [ofNum, num, Int.emod_one]
  | n + 1, v => by
    rw [ofNum, num, ofNum_length, num_ofNum n v, pw_succ]
    have hp := pw_pos n
    generalize (256 : Int) ^ n = B at *
    have h1 := Int.emod_add_mul_ediv v (256 * B)
    have h2 := Int.emod_add_mul_ediv v B
    have h3 := Int.emod_add_mul_ediv (v / B) 256
    have h4 : v / (256 * B) = v / B / 256 := by rw [Int.mul_comm, Int.ediv_ediv_of_nonneg (by omega)]
    rw [h4] at h1
    have h5 : B * (v / B) = B * ((v / B) % 256) + 256 * B * (v / B / 256) := by
      rw [← h3] ; simp only [Int.mul_add, ← Int.mul_assoc, Int.mul_comm B 256]
      rw [h3]
    have h6 : v / B % 256 * B = B * (v / B % 256) := Int.mul_comm _ _
    omega
theorem id_ofNum (v : Int) : Id32 (ofNum 32 v) := ⟨ofNum_length 32 v, ofNum_in8 32 v⟩

/-- The order byte by byte. -/
theorem cmp_lt : ∀ (a b : List Int), InB a → InB b → a.length = b.length → (Lib.compareBytes (Lib.bytesOf a) (Lib.bytesOf b) < 0 ↔ num a < num b)
  | [], [], _, _, _ => by simp [Lib.bytesOf, Lib.compareBytes, num]
  | x :: a, y :: b, ha, hb, hl => by
    have hl' : a.length = b.length := by simpa using hl
    have h1 := num_bound a ha.tail
    have h2 := num_bound b hb.tail
    have hx := ha.head
    have hy := hb.head
    have ih := cmp_lt a b ha.tail hb.tail hl'
    have hu : ∀ {p q : Int}, 0 ≤ p ∧ p < 256 → 0 ≤ q ∧ q < 256 → (UInt8.ofNat p.toNat < UInt8.ofNat q.toNat ↔ p < q) := fun {p q} hp hq => by
      rw [UInt8.lt_iff_toNat_lt, UInt8.toNat_ofNat_of_lt' (by show _ < 256; omega), UInt8.toNat_ofNat_of_lt' (by show _ < 256; omega)]; omega
    simp only [Lib.bytesOf, List.map_cons, Lib.compareBytes, hu hx hy, hu hy hx, num, hl']
    rw [hl'] at h1
    rcases Int.lt_trichotomy x y with hh | hh | hh
    · have := lex_lt h1 h2 hh
      simp [hh, this]
    · subst hh
      simp only [Int.lt_irrefl, if_false]
      simp only [Lib.bytesOf] at ih
      rw [ih]; omega
    · have := lex_lt h2 h1 hh
      have h3 : ¬ x < y := by omega
      simp only [h3, if_false, hh, if_true]
      omega
end Go.Proofs.YtkmhnpkkkhglpaaDoor
