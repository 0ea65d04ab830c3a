/- The filled up text: what ending makes of the rest is the reference's filled up text's end; a hash of two rows of whole chunks, one behind the other. No condition. -/
import Derived.Test.YtoebnkepeledmaaDoorWords
import Derived.Test.YtoebnkepeledmaaDoorApp
namespace Go.Proofs.YtoebnkepeledmaaDoor
open Go

def padZ (n : Nat) : Nat := (119 - n % 64) % 64
def lenTail (L : Int) : Nat → List Int
  | 0 => []
  | k + 1 => lenTail L k ++ [lenB L (7 - k)]
def padL (bs : List Int) : List Int := bs ++ [128] ++ List.replicate (padZ bs.length) 0 ++ lenTail (bs.length * 8) 8
theorem lenTail_length (L : Int) : ∀ k, (lenTail L k).length = k
  | 0 => rfl
  | k + 1 => by rw [lenTail, List.length_append, lenTail_length L k]; rfl
theorem eq_of_gi {l l' : List Int} (hl : l.length = l'.length) (h : ∀ j, j < l.length → gi l j = gi l' j) : l = l' := by
  apply List.ext_getElem hl
  intro j h1 h2
  have := h j h1
  simpa [gi, h1, h2] using this
theorem gi_app_l {x : List Int} (y : List Int) {j : Nat} (h : j < x.length) : gi (x ++ y) j = gi x j := by unfold gi; rw [List.getD_eq_getElem?_getD, List.getD_eq_getElem?_getD, List.getElem?_append_left h]
theorem gi_app_r {x : List Int} (y : List Int) {j : Nat} (h : x.length ≤ j) : gi (x ++ y) j = gi y (j - x.length) := by simp [gi, List.getElem?_append_right h]
theorem gi_rep (n : Nat) (j : Nat) : gi (List.replicate n 0) j = 0 := by
  by_cases h : j < n
  · simp [gi, h]
  · simp [gi, h]
theorem gi_setS (l : List Int) (i : Nat) (v : Int) (h : i < l.length) : gi (l.set i v) i = v := by simp [gi, h]
theorem gi_setN (l : List Int) (i j : Nat) (v : Int) (h : i ≠ j) : gi (l.set i v) j = gi l j := by simp [gi, List.getElem?_set_ne h]
theorem gi_lenTail (L : Int) : ∀ k m, m < k → gi (lenTail L k) m = lenB L (7 - m)
  | 0, m, h => by omega
  | k + 1, m, h => by
    rw [lenTail]
    by_cases e : m = k
    · subst e; rw [gi_app_r _ (by rw [lenTail_length]; omega), lenTail_length]; simp [gi]
    · rw [gi_app_l _ (by rw [lenTail_length]; omega)]; exact gi_lenTail L k m (by omega)
theorem gi_endBase (rs : List Int) (h : rs.length < 128) (j : Nat) : gi (endBase rs) j = if j < rs.length then gi rs j else if j = rs.length then 128 else 0 := by
  have hl : (spl zeros128 0 rs).length = 128 := by rw [spl_length _ _ _ (by simp [zeros128]; omega)]; simp [zeros128]
  unfold endBase
  by_cases e : j = rs.length
  · subst e; rw [gi_setS _ _ _ (by omega), if_neg (by omega), if_pos rfl]
  · rw [gi_setN _ _ _ _ (by omega)]
    have es : spl zeros128 0 rs = rs ++ zeros128.drop rs.length := by simp [spl]
    rw [es]
    by_cases hj : j < rs.length
    · rw [gi_app_l _ hj, if_pos hj]
    · rw [gi_app_r _ (by omega), if_neg hj, if_neg e]
      unfold zeros128; rw [List.drop_replicate, gi_rep]
theorem gi_endN (rs : List Int) (n : Nat) (L : Int) (h : rs.length < 128) (hn : n ≤ 128) (h8 : 8 ≤ n) : ∀ i, i ≤ 8 → ∀ j, gi (endN rs n L i) j = if n - i ≤ j ∧ j < n then lenB L (n - 1 - j) else gi (endBase rs) j
  | 0, _, j => by rw [if_neg (by omega)]; rfl
  | i + 1, hi, j => by
    have hl := endN_length rs n L (by omega) i
    rw [endN]
    by_cases e : n - 1 - i = j
    · subst e; rw [gi_setS _ _ _ (by omega), if_pos (by omega), show n - 1 - (n - 1 - i) = i by omega]
    · rw [gi_setN _ _ _ _ e, gi_endN rs n L h hn h8 i (by omega) j]
      by_cases h1 : n - i ≤ j ∧ j < n
      · rw [if_pos h1, if_pos (by omega)]
      · rw [if_neg h1, if_neg (by omega)]
theorem end_pad (rs : List Int) (n z : Nat) (L : Int) (hn : n ≤ 128) (hz : rs.length + 1 + z + 8 = n) : (endS rs n L).take n = rs ++ [128] ++ List.replicate z 0 ++ lenTail L 8 := by
  have hl : (endS rs n L).length = 128 := endN_length rs n L (by omega) 8
  refine eq_of_gi (by simp [hl, lenTail_length]; omega) (fun j hj => ?_)
  have hjn : j < n := by simp [hl] at hj; omega
  rw [show gi ((endS rs n L).take n) j = gi (endS rs n L) j by simp [gi, hjn]]
  unfold endS
  rw [gi_endN rs n L (by omega) hn (by omega) 8 (by omega) j, gi_endBase rs (by omega) j]
  have l1 : (rs ++ [128]).length = rs.length + 1 := by simp
  have l2 : (rs ++ [128] ++ List.replicate z 0).length = rs.length + 1 + z := by simp; omega
  by_cases h1 : n - 8 ≤ j
  · rw [if_pos ⟨h1, hjn⟩, gi_app_r _ (by omega), gi_lenTail L 8 _ (by omega), l2]; congr 1; omega
  · rw [if_neg (by omega), gi_app_l _ (by omega)]
    by_cases h2 : j < rs.length
    · rw [if_pos h2, gi_app_l _ (by omega), gi_app_l _ h2]
    · rw [if_neg h2]
      by_cases h3 : j = rs.length
      · subst h3; rw [if_pos rfl, gi_app_l _ (by omega), gi_app_r _ (by omega)]; simp [gi]
      · rw [if_neg h3, gi_app_r _ (by omega), gi_rep]

theorem chunk_app_l (x y : List Int) (j : Nat) (h : 64 * j + 64 ≤ x.length) : chunk (x ++ y) j = chunk x j := by
  unfold chunk
  rw [List.drop_append_of_le_length (by omega), List.take_append_of_le_length (by simp; omega)]
theorem chunk_app_r (x y : List Int) (X m : Nat) (h : 64 * X = x.length) : chunk (x ++ y) (X + m) = chunk y m := by
  unfold chunk
  rw [show 64 * (X + m) = x.length + 64 * m by omega, List.drop_append, List.drop_of_length_le (by omega), List.nil_append, show x.length + 64 * m - x.length = 64 * m by omega]
theorem absorbN_app_l (K : List Int) (s : S8) (x y : List Int) : ∀ k, 64 * k ≤ x.length → absorbN K s (x ++ y) k = absorbN K s x k
  | 0, _ => rfl
  | k + 1, h => by rw [absorbN, absorbN, absorbN_app_l K s x y k (by omega), chunk_app_l x y k (by omega)]
theorem absorbN_app_r (K : List Int) (s : S8) (x y : List Int) (X : Nat) (h : 64 * X = x.length) : ∀ m, absorbN K s (x ++ y) (X + m) = absorbN K (absorbN K s x X) y m
  | 0 => absorbN_app_l K s x y X (by omega)
  | m + 1 => by rw [show X + (m + 1) = (X + m) + 1 by omega, absorbN, absorbN, absorbN_app_r K s x y X h m, chunk_app_r x y X m h]

theorem sha_pad (bs : List Int) : shaS bs = idS (absorbN kWords s0 (padL bs) ((padL bs).length / 64)) := by
  have hw : 64 * (whole bs.length / 64) = whole bs.length := by unfold whole; omega
  have htk : (bs.take (whole bs.length)).length = whole bs.length := by rw [List.length_take]; unfold whole; omega
  have hdr : (bs.drop (whole bs.length)).length = bs.length % 64 := by rw [List.length_drop]; unfold whole; omega
  have hel := endLen_spec bs.length
  have hz : (bs.drop (whole bs.length)).length + 1 + padZ bs.length + 8 = endLen bs.length := by
    rw [hdr]; unfold padZ endLen; split <;> omega
  have he := end_pad (bs.drop (whole bs.length)) (endLen bs.length) (padZ bs.length) (bs.length * 8) hel.2.2 hz
  have hp : padL bs = bs.take (whole bs.length) ++ ((endS (bs.drop (whole bs.length)) (endLen bs.length) (bs.length * 8)).take (endLen bs.length)) := by
    rw [he]; unfold padL
    rw [← List.append_assoc, ← List.append_assoc, ← List.append_assoc, List.take_append_drop]
  have hE : ((endS (bs.drop (whole bs.length)) (endLen bs.length) (bs.length * 8)).take (endLen bs.length)).length = endLen bs.length := by
    rw [List.length_take, show (endS (bs.drop (whole bs.length)) (endLen bs.length) (bs.length * 8)).length = 128 from endN_length _ _ _ (by rw [hdr]; omega) 8]; omega
  rw [hp, List.length_append, htk, hE, show (whole bs.length + endLen bs.length) / 64 = whole bs.length / 64 + endLen bs.length / 64 by omega,
    absorbN_app_r kWords s0 _ _ (whole bs.length / 64) (by rw [htk, hw])]
  unfold shaS absorbS
  rw [htk, hE]

end Go.Proofs.YtoebnkepeledmaaDoor
