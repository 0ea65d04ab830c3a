/- Records of a ledger as plain lists: what eight bytes say, the greatest number of all of them. No condition but those that stand. -/
import Derived.Test.YtmfcildkkeeneaaSt
import Derived.Test.YtmfcildkkeeneaaArg
namespace Go.Proofs.Ytmfcildkkeeneaa
open Go Go.RowKit

/-- A number's record. -/
def recL (n : Int) : List Int := [n / 16777216 % 256, n / 65536 % 256, n / 256 % 256, n % 256, 255 - n / 16777216 % 256, 255 - n / 65536 % 256, 255 - n / 256 % 256, 255 - n % 256]
theorem recL_len (n : Int) : (recL n).length = 8 := rfl
theorem recL_by (n : Int) : By (recL n) := by
  intro x hx
  simp only [recL, List.mem_cons, List.not_mem_nil, or_false] at hx
  rcases hx with rfl | rfl | rfl | rfl | rfl | rfl | rfl | rfl <;> omega
def be4 (r : List Int) : Int := ((gi r 0 * 256 + gi r 1) * 256 + gi r 2) * 256 + gi r 3
def okR (r : List Int) : Prop := gi r 4 = 255 - gi r 0 ∧ gi r 5 = 255 - gi r 1 ∧ gi r 6 = 255 - gi r 2 ∧ gi r 7 = 255 - gi r 3
instance (r : List Int) : Decidable (okR r) := by unfold okR; infer_instance
/-- What eight bytes say. -/
def numL (r : List Int) : Int := if okR r then be4 r else 0
def mx (a b : Int) : Int := if a < b then b else a
theorem eight {r : List Int} (h : r.length = 8) : ∃ a b c d e f g i, r = [a, b, c, d, e, f, g, i] := by
  match r, h with
  | [a, b, c, d, e, f, g, i], _ => exact ⟨a, b, c, d, e, f, g, i, rfl⟩
theorem by8 {a b c d e f g i : Int} (h : By [a, b, c, d, e, f, g, i]) : (0 ≤ a ∧ a < 256) ∧ (0 ≤ b ∧ b < 256) ∧ (0 ≤ c ∧ c < 256) ∧ (0 ≤ d ∧ d < 256) ∧ (0 ≤ e ∧ e < 256) ∧ (0 ≤ f ∧ f < 256) ∧ (0 ≤ g ∧ g < 256) ∧ (0 ≤ i ∧ i < 256) :=
  ⟨h a (by simp), h b (by simp), h c (by simp), h d (by simp), h e (by simp), h f (by simp), h g (by simp), h i (by simp)⟩
theorem be4_range {r : List Int} (hl : r.length = 8) (hb : By r) : 0 ≤ be4 r ∧ be4 r < 4294967296 := by
  obtain ⟨a, b, c, d, e, f, g, i, rfl⟩ := eight hl
  obtain ⟨h1, h2, h3, h4, _⟩ := by8 hb
  show 0 ≤ ((a * 256 + b) * 256 + c) * 256 + d ∧ ((a * 256 + b) * 256 + c) * 256 + d < 4294967296
  omega
theorem numL_range {r : List Int} (hl : r.length = 8) (hb : By r) : 0 ≤ numL r ∧ numL r < 4294967296 := by
  have := be4_range hl hb
  unfold numL
  split <;> omega
theorem rec_be4 {r : List Int} (hl : r.length = 8) (hb : By r) : r = recL (be4 r) ↔ okR r := by
  obtain ⟨a, b, c, d, e, f, g, i, rfl⟩ := eight hl
  obtain ⟨h1, h2, h3, h4, h5, h6, h7, h8⟩ := by8 hb
  have e0 : be4 [a, b, c, d, e, f, g, i] = ((a * 256 + b) * 256 + c) * 256 + d := rfl
  have e1 : okR [a, b, c, d, e, f, g, i] ↔ e = 255 - a ∧ f = 255 - b ∧ g = 255 - c ∧ i = 255 - d := Iff.rfl
  rw [e0, e1]
  have q1 : (((a * 256 + b) * 256 + c) * 256 + d) / 16777216 % 256 = a := by omega
  have q2 : (((a * 256 + b) * 256 + c) * 256 + d) / 65536 % 256 = b := by omega
  have q3 : (((a * 256 + b) * 256 + c) * 256 + d) / 256 % 256 = c := by omega
  have q4 : (((a * 256 + b) * 256 + c) * 256 + d) % 256 = d := by omega
  unfold recL
  rw [q1, q2, q3, q4]
  simp
theorem numL_rec {n : Int} (h : 0 ≤ n ∧ n < 4294967296) : numL (recL n) = n := by
  have e0 : be4 (recL n) = ((n / 16777216 % 256 * 256 + n / 65536 % 256) * 256 + n / 256 % 256) * 256 + n % 256 := rfl
  have e1 : okR (recL n) := ⟨rfl, rfl, rfl, rfl⟩
  unfold numL
  rw [if_pos e1, e0]
  omega
/-- A front of a record, and noughts behind. -/
theorem numL_torn {n : Int} (h : 0 ≤ n ∧ n < 4294967296) (j : Nat) (hj : j ≤ 8) : numL ((recL n).take j ++ zer (8 - j)) ≤ n := by
  by_cases h4 : 4 ≤ j
  · have e0 : be4 ((recL n).take j ++ zer (8 - j)) = n := by
      have : ((n / 16777216 % 256 * 256 + n / 65536 % 256) * 256 + n / 256 % 256) * 256 + n % 256 = n := by omega
      rcases (by omega : j = 4 ∨ j = 5 ∨ j = 6 ∨ j = 7 ∨ j = 8) with rfl | rfl | rfl | rfl | rfl <;> exact this
    unfold numL
    rw [e0]
    split <;> omega
  · have e1 : ¬ okR ((recL n).take j ++ zer (8 - j)) := by
      rintro ⟨_, _, _, h7⟩
      rcases (by omega : j = 0 ∨ j = 1 ∨ j = 2 ∨ j = 3) with rfl | rfl | rfl | rfl <;> exact absurd h7 (by show ¬ (0 : Int) = 255 - 0; decide)
    unfold numL
    rw [if_neg e1]
    exact h.1

def grF : Nat → List Int → Int
  | 0, _ => 0
  | k + 1, b => mx (numL (b.take 8)) (grF k (b.drop 8))
/-- The greatest number of all records. -/
def grL (b : List Int) : Int := grF (b.length / 8) b
theorem grL_short {b : List Int} (h : b.length < 8) : grL b = 0 := by
  unfold grL
  rw [show b.length / 8 = 0 by omega]; rfl
theorem grL_step {b : List Int} (h : 8 ≤ b.length) : grL b = mx (numL (b.take 8)) (grL (b.drop 8)) := by
  unfold grL
  rw [show b.length / 8 = (b.drop 8).length / 8 + 1 by simp; omega]; rfl
theorem by_take {l : List Int} (h : By l) (n : Nat) : By (l.take n) := fun x hx => h x (List.mem_of_mem_take hx)
theorem by_drop {l : List Int} (h : By l) (n : Nat) : By (l.drop n) := fun x hx => h x (List.mem_of_mem_drop hx)
theorem by_app {a b : List Int} (h : By a) (k : By b) : By (a ++ b) := fun x hx => (List.mem_append.1 hx).elim (h x) (k x)
theorem by_zer (n : Nat) : By (zer n) := fun x hx => by have := List.eq_of_mem_replicate hx; omega
theorem grF_range : ∀ (k : Nat) (b : List Int), k * 8 ≤ b.length → By b → 0 ≤ grF k b ∧ grF k b < 4294967296
  | 0, b, _, _ => by show (0 : Int) ≤ 0 ∧ (0 : Int) < _; omega
  | k + 1, b, hl, hb => by
    have h1 := numL_range (r := b.take 8) (by simp; omega) (by_take hb 8)
    have h2 := grF_range k (b.drop 8) (by simp; omega) (by_drop hb 8)
    show 0 ≤ mx _ _ ∧ mx _ _ < _
    unfold mx; split <;> omega
theorem grL_range {b : List Int} (hb : By b) : 0 ≤ grL b ∧ grL b < 4294967296 := grF_range _ b (by omega) hb
theorem mx_assoc (a b c : Int) : mx (mx a b) c = mx a (mx b c) := by unfold mx; repeat (first | split | omega)
theorem grL_append {b : List Int} (hb : By b) : ∀ (k : Nat) (a : List Int), a.length = 8 * k → By a → grL (a ++ b) = mx (grL a) (grL b)
  | 0, a, hl, _ => by
    obtain rfl : a = [] := List.eq_nil_of_length_eq_zero (by omega)
    have := grL_range hb
    rw [List.nil_append, grL_short (b := []) (by simp)]
    unfold mx; split <;> omega
  | k + 1, a, hl, ha => by
    rw [grL_step (b := a ++ b) (by simp; omega), grL_step (b := a) (by omega), List.take_append_of_le_length (by omega), List.drop_append_of_le_length (by omega), grL_append hb k (a.drop 8) (by simp; omega) (by_drop ha 8), mx_assoc]
theorem grL_one {r : List Int} (h : r.length = 8) (hb : By r) : grL r = numL r := by
  have := numL_range h hb
  rw [grL_step (by omega), grL_short (b := r.drop 8) (by simp; omega), List.take_of_length_le (by omega)]
  unfold mx; split <;> omega
/-- A front has no greater number. -/
theorem grL_take {b : List Int} (hb : By b) (m : Nat) : grL (b.take m) ≤ grL b := by
  have h0 : b.take (8 * (m / 8)) ++ (b.drop (8 * (m / 8))) = b := List.take_append_drop _ _
  by_cases hm : m ≤ b.length
  · have h1 : b.take (8 * (m / 8)) ++ (b.drop (8 * (m / 8))).take (m - 8 * (m / 8)) = b.take m := by
      rw [← List.drop_take, show b.take (8 * (m / 8)) = (b.take m).take (8 * (m / 8)) by rw [List.take_take]; congr 1; omega]
      exact List.take_append_drop _ _
    have h2 := grL_append (by_drop hb (8 * (m / 8))) (m / 8) (b.take (8 * (m / 8))) (by simp; omega) (by_take hb _)
    have h3 := grL_append (by_take (by_drop hb (8 * (m / 8))) (m - 8 * (m / 8))) (m / 8) (b.take (8 * (m / 8))) (by simp; omega) (by_take hb _)
    rw [h0] at h2
    rw [h1] at h3
    have h4 := grL_range (by_drop hb (8 * (m / 8)))
    have h5 := grL_range (by_take hb (8 * (m / 8)))
    rw [grL_short (b := (b.drop (8 * (m / 8))).take (m - 8 * (m / 8))) (by simp; omega)] at h3
    rw [h2, h3]
    unfold mx; split <;> split <;> omega
  · rw [List.take_of_length_le (by omega)]; exact Int.le_refl _
/-- How many noughts lack to a multiple of 8. -/
def lackN (n : Nat) : Nat := (8 - n % 8) % 8
def padL (b : List Int) : List Int := b ++ zer (lackN b.length)
theorem padL_len (b : List Int) : (padL b).length = 8 * ((b.length + 7) / 8) := by
  simp only [padL, List.length_append, zer_length, lackN]; omega
theorem by_pad {b : List Int} (h : By b) : By (padL b) := by_app h (by_zer _)
theorem grL_padrec {b : List Int} (hb : By b) {n : Int} (h : 0 ≤ n ∧ n < 4294967296) : grL (padL b ++ recL n) = mx (grL (padL b)) n := by
  rw [grL_append (recL_by n) _ _ (padL_len b) (by_pad hb), grL_one (recL_len n) (recL_by n), numL_rec h]
theorem grL_pad_ge {b : List Int} (hb : By b) : grL b ≤ grL (padL b) := by
  have := grL_take (by_pad hb) b.length
  rwa [padL, List.take_left' rfl] at this
/-- What a Next writes. -/
def rowL (b : List Int) (n : Int) : List Int := zer (lackN b.length) ++ recL n
theorem rowL_len (b : List Int) (n : Int) : (rowL b n).length = lackN b.length + 8 := by simp [rowL, zer_length, recL_len]
theorem rowL_by (b : List Int) (n : Int) : By (rowL b n) := by_app (by_zer _) (recL_by n)
theorem app_row (b : List Int) (n : Int) : b ++ rowL b n = padL b ++ recL n := by simp [rowL, padL]
end Go.Proofs.Ytmfcildkkeeneaa
