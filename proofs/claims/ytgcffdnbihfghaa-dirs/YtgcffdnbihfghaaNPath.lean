/- Paths as lists of names, names as lists of bytes: cut at strokes, put together, there and back. No program in it. -/
import Derived.Test.YtgcffdnbihfghaaRune
import Derived.Lib.Split
import Derived.Lib.SplitLaws
import Derived.Lib.Join
namespace Go.Proofs.Ytgcffdnbihfghaa
open Go

def firstE : List (List UInt8) → Int
  | [] => 0
  | x :: t => if chk x ≠ 0 then chk x else firstE t
/-- The error of a list of names. -/
def allE (xs : List (List UInt8)) : Int := if 5 < xs.length then 4 else firstE xs
def pathL (xs : List (List UInt8)) : List UInt8 := if xs = [] then [47] else xs.flatMap (fun x => 47 :: x)
/-- Cut at each stroke. -/
def cutL : List UInt8 → List (List UInt8)
  | [] => [[]]
  | b :: t => if b = 47 then [] :: cutL t else match cutL t with | [] => [[b]] | x :: r => (b :: x) :: r
def badEnds (p : List UInt8) : Bool := !(p.head? == some 47) || p.getLast? == some 47
def splE (p : List UInt8) : Int := if p = [47] then 0 else if badEnds p then 10 else allE (cutL (p.drop 1))
def splL (p : List UInt8) : List (List UInt8) := if p = [47] then [] else if badEnds p then [] else if allE (cutL (p.drop 1)) = 0 then cutL (p.drop 1) else []

theorem cutL_ne (l : List UInt8) : cutL l ≠ [] := by
  cases l with
  | nil => simp [cutL]
  | cons b t => unfold cutL; split; · simp
                split <;> simp
theorem cutL_len (l : List UInt8) : (cutL l).length ≤ l.length + 1 := by
  induction l with
  | nil => simp [cutL]
  | cons b t ih =>
    unfold cutL
    split
    · simp; omega
    · split
      · simp
      · rename_i x r h; rw [h] at ih; simp at ih ⊢; omega
theorem cutL_stroke (x t : List UInt8) (h : (47 : UInt8) ∉ x) : cutL (x ++ 47 :: t) = x :: cutL t := by
  induction x with
  | nil => simp [cutL]
  | cons b x ih =>
    have hb : b ≠ 47 := fun e => h (by simp [e])
    have := ih (fun e => h (by simp [e]))
    simp only [List.cons_append]
    rw [cutL, if_neg hb, this]
theorem cutL_plain (x : List UInt8) (h : (47 : UInt8) ∉ x) : cutL x = [x] := by
  induction x with
  | nil => simp [cutL]
  | cons b x ih =>
    have hb : b ≠ 47 := fun e => h (by simp [e])
    unfold cutL
    rw [if_neg hb, ih (fun e => h (by simp [e]))]
theorem flat_cut (l : List UInt8) : (cutL l).flatMap (fun x => 47 :: x) = 47 :: l := by
  induction l with
  | nil => simp [cutL]
  | cons b t ih =>
    unfold cutL
    split
    · rename_i hb; simp [ih, hb]
    · split
      · rename_i h; exact absurd h (cutL_ne t)
      · rename_i x r h
        rw [h] at ih
        simp at ih ⊢
        exact ih
theorem cut_flat : ∀ (xs : List (List UInt8)), xs ≠ [] → (∀ x ∈ xs, (47 : UInt8) ∉ x) → cutL ((xs.flatMap (fun x => 47 :: x)).drop 1) = xs
  | [], h, _ => absurd rfl h
  | [x], _, hx => by simp [cutL_plain x (hx x (by simp))]
  | x :: y :: r, _, hx => by
    have ih := cut_flat (y :: r) (by simp) (fun z hz => hx z (by simp [hz]))
    simp only [List.flatMap_cons, List.cons_append, List.drop_succ_cons, List.drop_zero] at ih ⊢
    rw [cutL_stroke x _ (hx x (by simp)), ih]
/-- Put together out of what was cut: the path again. -/
theorem path_cut {p : List UInt8} (h1 : p ≠ [47]) (h : badEnds p = false) : pathL (cutL (p.drop 1)) = p := by
  cases p with
  | nil => simp [badEnds] at h
  | cons b t =>
    have hb : b = 47 := by
      simp only [badEnds, List.head?_cons, Bool.or_eq_false_iff, Bool.not_eq_false', beq_iff_eq, Option.some.injEq] at h
      exact h.1
    subst hb
    unfold pathL
    rw [if_neg (cutL_ne _)]
    simpa using flat_cut t

/-- Cut at most k times. -/
theorem index_plain (l : List UInt8) (h : (47 : UInt8) ∉ l) : Lib.index l [47] = -1 := by
  induction l with
  | nil => simp [Lib.index]
  | cons b t ih =>
    have hb : ¬ (47 : UInt8) = b := fun e => h (by simp [e])
    unfold Lib.index
    rw [ih (fun e => h (by simp [e]))]
    simp [List.isPrefixOf, hb]
theorem index_stroke (x t : List UInt8) (h : (47 : UInt8) ∉ x) : Lib.index (x ++ 47 :: t) [47] = x.length := by
  induction x with
  | nil => simp [Lib.index, List.isPrefixOf]
  | cons b x ih =>
    have hb : ¬ (47 : UInt8) = b := fun e => h (by simp [e])
    have := ih (fun e => h (by simp [e]))
    simp only [List.cons_append]
    unfold Lib.index
    rw [this]
    have h2 : ¬ ((x.length : Int) == -1) = true := by simp
    simp [List.isPrefixOf, hb, h2]
theorem at_stroke : ∀ (l : List UInt8), (47 : UInt8) ∈ l → ∃ x t, l = x ++ 47 :: t ∧ (47 : UInt8) ∉ x
  | [], h => by simp at h
  | b :: l, h => by
    by_cases hb : b = 47
    · exact ⟨[], l, by simp [hb], by simp⟩
    · obtain ⟨x, t, e, hx⟩ := at_stroke l (by simpa [Ne.symm hb] using h)
      exact ⟨b :: x, t, by simp [e], by simp [hx, Ne.symm hb]⟩
theorem splitK_cut : ∀ (k : Nat) (l : List UInt8), (cutL l).length ≤ k + 1 → Lib.splitK [47] 0 k l = cutL l
  | 0, l, h => by
    by_cases hm : (47 : UInt8) ∈ l
    · obtain ⟨x, t, rfl, hx⟩ := at_stroke l hm
      rw [cutL_stroke x t hx] at h
      have := cutL_ne t
      cases ht : cutL t with
      | nil => exact absurd ht this
      | cons => rw [ht] at h; simp at h
    · rw [cutL_plain l hm]; rfl
  | k + 1, l, h => by
    unfold Lib.splitK
    by_cases hm : (47 : UInt8) ∈ l
    · obtain ⟨x, t, rfl, hx⟩ := at_stroke l hm
      rw [cutL_stroke x t hx] at h ⊢
      rw [index_stroke x t hx]
      have h2 : ¬ ((x.length : Int) == -1) = true := by simp
      rw [if_neg h2]
      have e1 : (x ++ 47 :: t).drop (((x.length : Int)).toNat + [(47 : UInt8)].length) = t := by simp [List.drop_append]
      have e2 : (x ++ 47 :: t).take (((x.length : Int)).toNat + 0) = x := by simp
      rw [e1, e2, splitK_cut k t (by simpa using h)]
    · rw [index_plain l hm, cutL_plain l hm]; simp
theorem splitK_many : ∀ (k : Nat) (l : List UInt8), k + 1 < (cutL l).length → (Lib.splitK [47] 0 k l).length = k + 1
  | 0, l, h => by simp [Lib.splitK]
  | k + 1, l, h => by
    unfold Lib.splitK
    by_cases hm : (47 : UInt8) ∈ l
    · obtain ⟨x, t, rfl, hx⟩ := at_stroke l hm
      rw [cutL_stroke x t hx] at h
      rw [index_stroke x t hx]
      have h2 : ¬ ((x.length : Int) == -1) = true := by simp
      rw [if_neg h2]
      have e1 : (x ++ 47 :: t).drop (((x.length : Int)).toNat + [(47 : UInt8)].length) = t := by simp [List.drop_append]
      rw [e1, List.length_cons, splitK_many k t (by simpa using h)]
    · rw [cutL_plain l hm] at h; simp at h

/-- No name has a stroke, and none is empty. -/
theorem chkL_ten : ∀ (f : Nat) (l : List UInt8) (n : Nat), chkL f l true n ≠ 0
  | 0, l, n => by simp [chkL, endE]
  | f + 1, l, n => by
    by_cases h : l = []
    · subst h; rw [chkL_end]; simp [endE]
    · rw [chkL_step h]
      split
      · simp
      · simpa using chkL_ten f (l.drop (decL l).2) (n + 1)
theorem high (l : List UInt8) (hb : brk l = false) : ∀ k, k < (decL l).2 → 0 < k ∨ (decL l).2 ≠ 1 → 128 ≤ bt l k := by
  have h0 := bt_lt l 0
  unfold brk at hb
  intro k hk hw
  unfold decL at hb hk hw
  simp only [ctn, Bool.and_eq_true, beq_iff_eq, decide_eq_true_eq, valid_iff, ge_iff_le] at hb hk hw
  have c : ∀ j, bt l j / 64 = 2 → 128 ≤ bt l j := fun j h => by omega
  split at hb
  · simp_all
  · split at hb
    · split at hb
      · simp_all
        rcases (by omega : k = 0 ∨ k = 1) with rfl | rfl
        · omega
        · exact c 1 (by omega)
      · simp at hb
    · split at hb
      · split at hb
        · simp_all
          rcases (by omega : k = 0 ∨ k = 1 ∨ k = 2) with rfl | rfl | rfl
          · omega
          · exact c 1 (by omega)
          · exact c 2 (by omega)
        · simp at hb
      · split at hb
        · split at hb
          · simp_all
            rcases (by omega : k = 0 ∨ k = 1 ∨ k = 2 ∨ k = 3) with rfl | rfl | rfl | rfl
            · omega
            · exact c 1 (by omega)
            · exact c 2 (by omega)
            · exact c 3 (by omega)
          · simp at hb
        · simp at hb
theorem low (l : List UInt8) (hb : brk l = false) (h1 : (decL l).2 = 1) : bt l 0 = (decL l).1 := by
  unfold brk at hb
  unfold decL at hb h1 ⊢
  repeat' split at hb
  all_goals simp_all
theorem chkL_stroke : ∀ (f : Nat) (l : List UInt8) (b : Bool) (n : Nat), l.length ≤ f → chkL f l b n = 0 → (47 : UInt8) ∉ l
  | 0, l, b, n, hf, _ => by
    obtain rfl : l = [] := List.eq_nil_of_length_eq_zero (by omega)
    simp
  | f + 1, l, b, n, hf, h0 => by
    by_cases h : l = []
    · subst h; simp
    · rw [chkL_step h] at h0
      cases hb : brk l with
      | true => rw [hb] at h0; simp at h0
      | false =>
        rw [hb] at h0
        simp only [Bool.false_eq_true, if_false] at h0
        have hp := decL_pos l
        have ih := chkL_stroke f (l.drop (decL l).2) _ _ (by simp; omega) h0
        have hbar : bar (decL l).1 = false := by
          cases hq : bar (decL l).1 with
          | false => rfl
          | true => rw [hq, Bool.or_true] at h0; exact absurd h0 (chkL_ten _ _ _)
        intro hm
        rw [← List.take_append_drop (decL l).2 l] at hm
        rcases List.mem_append.1 hm with hm | hm
        · obtain ⟨k, hk, he⟩ := List.getElem_of_mem hm
          have hk2 : k < (decL l).2 ∧ k < l.length := by simp at hk; omega
          have hbt : bt l k = 47 := by
            have : l[k] = 47 := by simpa using he
            unfold bt
            rw [List.getD_eq_getElem?_getD, List.getElem?_eq_getElem hk2.2, this]; rfl
          by_cases hw : 0 < k ∨ (decL l).2 ≠ 1
          · have := high l hb k hk2.1 hw; omega
          · obtain rfl : k = 0 := by omega
            have := low l hb (by omega)
            rw [hbt] at this
            rw [← this] at hbar
            simp [bar] at hbar
        · exact ih hm
theorem chk_stroke {x : List UInt8} (h : chk x = 0) : (47 : UInt8) ∉ x := chkL_stroke _ _ _ _ (Nat.le_refl _) h
theorem chk_ne {x : List UInt8} (h : chk x = 0) : x ≠ [] := fun e => by subst e; exact absurd h (by decide)
theorem firstE_all : ∀ {xs : List (List UInt8)}, firstE xs = 0 → ∀ x ∈ xs, chk x = 0
  | [], _, x, h => by simp at h
  | y :: t, h, x, hx => by
    unfold firstE at h
    split at h
    · rename_i hn; exact absurd h hn
    · rename_i hn
      rcases List.mem_cons.1 hx with rfl | hx
      · simpa using hn
      · exact firstE_all h x hx
theorem firstE_of : ∀ {xs : List (List UInt8)}, (∀ x ∈ xs, chk x = 0) → firstE xs = 0
  | [], _ => rfl
  | y :: t, h => by
    unfold firstE
    rw [if_neg (by simpa using h y (by simp)), firstE_of (fun x hx => h x (by simp [hx]))]
theorem allE_all {xs : List (List UInt8)} (h : allE xs = 0) : xs.length ≤ 5 ∧ ∀ x ∈ xs, chk x = 0 := by
  unfold allE at h
  split at h
  · simp at h
  · exact ⟨by omega, firstE_all h⟩
/-- P303: there and back. -/
theorem spl_path {xs : List (List UInt8)} (h : allE xs = 0) : splE (pathL xs) = 0 ∧ splL (pathL xs) = xs := by
  obtain ⟨h5, hall⟩ := allE_all h
  by_cases hx : xs = []
  · subst hx; exact ⟨by decide, by decide⟩
  have hp : pathL xs = xs.flatMap (fun x => 47 :: x) := by simp [pathL, hx]
  have hc := cut_flat xs hx (fun x m => chk_stroke (hall x m))
  rw [← hp] at hc
  have hn : pathL xs ≠ [47] := fun e => by
    rw [e] at hc
    have : xs = [[]] := by rw [← hc]; rfl
    subst this
    exact chk_ne (hall [] (by simp)) rfl
  have hb : badEnds (pathL xs) = false := by
    unfold badEnds
    rw [Bool.or_eq_false_iff]
    constructor
    · rw [hp]; cases xs with
      | nil => exact absurd rfl hx
      | cons x t => simp
    · obtain ⟨ys, y, rfl⟩ : ∃ ys y, xs = ys ++ [y] := ⟨xs.dropLast, xs.getLast hx, (List.dropLast_concat_getLast hx).symm⟩
      have hy := hall y (by simp)
      rw [hp]
      have hyn := chk_ne hy
      have hys := chk_stroke hy
      simp only [List.flatMap_append, List.flatMap_cons, List.flatMap_nil, List.append_nil, beq_eq_false_iff_ne]
      rw [List.getLast?_append, List.getLast?_cons]
      cases hl : y.getLast? with
      | none => simp at hl; exact absurd hl hyn
      | some z =>
        intro e
        have e : z = 47 := by simpa using e
        exact hys (e ▸ List.mem_of_getLast? hl)
  unfold splE splL
  rw [if_neg hn, if_neg (by simp [hb]), if_neg hn, if_neg (by simp [hb]), hc, if_pos h]
  exact ⟨h, rfl⟩
theorem path_spl {p : List UInt8} (h : splE p = 0) : allE (splL p) = 0 ∧ pathL (splL p) = p := by
  unfold splE at h
  unfold splL
  split at h
  · rename_i hp; subst hp; exact ⟨by decide, by decide⟩
  · rename_i hp
    split at h
    · simp at h
    · rename_i hb
      rw [if_neg hp, if_neg hb, if_pos h]
      exact ⟨h, path_cut hp (by simpa using hb)⟩
end Go.Proofs.Ytgcffdnbihfghaa
