/- names.Join and the reference's Join, of every list of texts: the error of the list, and the path where there is none. Neither turns old memory. -/
import Derived.Test.YtkehpgegghhfpaaDoorAll
import Derived.Test.YtkehpgegghhfpaaDoorRcheck
namespace Go.Proofs.YtkehpgegghhfpaaDoor
open Go.RowKit

def joinS (xs : List ByteArray) : List UInt8 := if allE (Ls xs) = 0 then pathL (Ls xs) else []
theorem join_path (xs : List (List UInt8)) : (47 : UInt8) :: Lib.join xs [47] = pathL xs := by
  cases xs with
  | nil => rfl
  | cons x t =>
    rw [Lib.join_cons]
    simp only [pathL, Lib.joinTail, reduceCtorEq, if_false, List.flatMap_cons, List.cons_append]
    congr 2
theorem cat_data (a b : ByteArray) : (a ++ b).data.toList = a.data.toList ++ b.data.toList := by
  rw [ByteArray.data_append]; simp
theorem pathL_len (xs : List (List UInt8)) (B : Nat) (h : ∀ x ∈ xs, x.length ≤ B) : (pathL xs).length ≤ 1 + xs.length * (B + 1) := by
  unfold pathL
  split
  · simp
  · rename_i hx; clear hx
    induction xs with
    | nil => simp
    | cons x t ih =>
      have h1 := h x (by simp)
      have h2 := ih (fun y hy => h y (by simp [hy]))
      simp only [List.flatMap_cons, List.length_append, List.length_cons, Nat.add_mul, Nat.one_mul] at h2 ⊢
      omega

set_option maxRecDepth 20000 in
set_option maxHeartbeats 1000000 in
theorem join_any (xs : List ByteArray) (p : Option Addr) (c : Nat) (w : World) (hx : Strs w p xs) (hc : xs.length ≤ c) (hs : ∀ x ∈ xs, x.size ≤ 1099511627776) :
    Calls Tryd.prog 13 #[.slice p xs.length c] w fun e w' => ∃ s : ByteArray, s.data.toList = joinS xs ∧ e = .returned (.tuple #[.string s, .int .i64 (allE (Ls xs))]) ∧ Below w.heap.size w w' := by
  have hall := fun w hx => all_any xs p c w hx (fun x h => by have := hs x h; omega)
  unfold joinS
  by_cases hz : allE (Ls xs) = 0
  · rw [if_pos hz]
    rw [hz] at hall ⊢
    obtain ⟨h5, _⟩ := allE_all hz
    have h5 : xs.length ≤ 5 := by simpa [Ls] using h5
    go_enter Tryd.func13, Tryd.ntmps13
    by_cases h0 : xs.length = 0
    · obtain rfl : xs = [] := List.eq_nil_of_length_eq_zero h0
      simp only [List.length_nil] at hall ⊢
      go_wp2_with (first | (go_at_call 21; refine (hall _ hx).mono ?_; rintro e w1 ⟨rfl, hb1⟩) | (go_at_call 22; refine (Tryd.strings_Join_none _ _ _ _).mono ?_; rintro e w2 ⟨rfl, rfl⟩))
      go_ret2
      exact ⟨_, by rfl, rfl, hb1⟩
    · obtain ⟨b, o, rfl, hcell⟩ := hx (by omega)
      have hbl : b < w.heap.size := by have := block_lt_of_cell (hcell 0 (by omega)); exact this
      have hlen : (Lib.join (xs.map (·.data.toList)) (⟨#[47]⟩ : ByteArray).data.toList).length ≤ 140737488355328 := by
        have h1 := pathL_len (Ls xs) 1099511627776 (fun x h => by
          obtain ⟨y, hy, rfl⟩ := List.mem_map.1 h
          simpa using hs y hy)
        rw [← join_path, List.length_cons] at h1
        have h2 : (Ls xs).length ≤ 5 := by simpa [Ls] using h5
        have h3 : (Ls xs).length * (1099511627776 + 1) ≤ 5 * (1099511627776 + 1) := Nat.mul_le_mul_right _ h2
        have h4 : (Lib.join (Ls xs) [47]).length ≤ 140737488355328 := by omega
        exact h4
      go_wp2_with (first | (go_at_call 21; refine (hall _ hx).mono ?_; rintro e w1 ⟨rfl, hb1⟩) | (go_at_call 22; refine (Tryd.strings_Join b o c xs _ w1 (fun j x h => by
          have hj := (List.getElem?_eq_some_iff.1 h).1
          have := hcell j hj
          rw [hb1.cell (p := ⟨b, o + j, none⟩) hbl, this, List.getD_eq_getElem?_getD, h]; rfl) (by have := hb1.size; omega) (by omega) hc hlen).mono ?_; rintro e w2 ⟨rfl, hb2⟩))
      go_ret2
      refine ⟨_, ?_, rfl, hb1.trans (hb2.mono hb1.size)⟩
      rw [cat_data]
      exact join_path (Ls xs)
  · rw [if_neg hz]
    have hz' : (allE (Ls xs) != 0) = true := by simpa using hz
    have hz2 : (allE (Ls xs) == 0) = false := by simpa using hz
    go_enter Tryd.func13, Tryd.ntmps13
    go_wp2_with (go_at_call 21; refine (hall _ hx).mono ?_; rintro e w1 ⟨rfl, hb1⟩)
    go_ret2
    exact ⟨_, by rfl, rfl, hb1⟩

/-- The path of a list, as a text. -/
def jn (xs : List ByteArray) : ByteArray := ⟨(joinS xs).toArray⟩
theorem jn_of {xs : List ByteArray} {s : ByteArray} (h : s.data.toList = joinS xs) : s = jn xs := by
  unfold jn; rw [← h]
theorem jn_bad {xs : List ByteArray} (h : allE (Ls xs) ≠ 0) : jn xs = ⟨#[]⟩ := by unfold jn joinS; rw [if_neg h]
theorem jn_data (xs : List ByteArray) : (jn xs).data.toList = joinS xs := by simp [jn]
theorem size_data (s : ByteArray) : s.data.toList.length = s.size := by simp
def flat (xs : List ByteArray) : List UInt8 := (Ls xs).flatMap (fun x => 47 :: x)
theorem flat_take {xs : List ByteArray} {k : Nat} (h : k < xs.length) : flat (xs.take (k + 1)) = (flat (xs.take k) ++ [47]) ++ (xs.getD k ByteArray.empty).data.toList := by
  rw [List.take_add_one]
  simp only [flat, Ls, List.map_append, List.flatMap_append, List.getD_eq_getElem?_getD, List.getElem?_eq_getElem h, Option.toList, Option.getD, List.map_cons, List.map_nil, List.flatMap_cons, List.flatMap_nil, List.append_nil, List.append_assoc, List.cons_append, List.nil_append]
theorem jn_flat {xs : List ByteArray} (h : allE (Ls xs) = 0) (hn : xs ≠ []) : (jn xs).data.toList = flat xs := by
  have hn2 : Ls xs ≠ [] := by simpa [Ls] using hn
  rw [jn_data, joinS, if_pos h, pathL, if_neg hn2]; rfl
theorem ba_ext {a b : ByteArray} (h : a.data.toList = b.data.toList) : a = b := by
  cases a; cases b; simp only at h; congr 1; exact Array.toList_inj.1 h

theorem join_jn (xs : List ByteArray) (p : Option Addr) (c : Nat) (w : World) (hx : Strs w p xs) (hc : xs.length ≤ c) (hs : ∀ x ∈ xs, x.size ≤ 1099511627776) :
    Calls Tryd.prog 13 #[.slice p xs.length c] w fun e w' => e = .returned (.tuple #[.string (jn xs), .int .i64 (allE (Ls xs))]) ∧ Below w.heap.size w w' :=
  (join_any xs p c w hx hc hs).mono fun e w' ⟨s, h1, h2, h3⟩ => ⟨by rw [h2, jn_of h1], h3⟩

set_option maxRecDepth 20000 in
set_option maxHeartbeats 1000000 in
theorem rjoin_jn (xs : List ByteArray) (p : Option Addr) (c : Nat) (w : World) (hx : Strs w p xs) (hs : ∀ x ∈ xs, x.size ≤ 1099511627776) :
    Calls Tryd.prog 14 #[.slice p xs.length c] w fun e w' => e = .returned (.tuple #[.string (jn xs), .int .i64 (allE (Ls xs))]) ∧ w' = w := by
  have hL : (Ls xs).length = xs.length := by simp [Ls]
  have hbad := @jn_bad xs
  have hflat := @jn_flat xs
  have hall : allE (Ls xs) = if 5 < xs.length then 4 else firstE (Ls xs) := by unfold allE; rw [hL]
  have hnil : xs = [] → jn xs = ⟨#[47]⟩ := by rintro rfl; rfl
  generalize allE (Ls xs) = A at *
  generalize jn xs = J at *
  by_cases h5 : 5 < xs.length
  · rw [if_pos h5] at hall
    subst hall
    rw [hbad (by decide)]
    go_enter Tryd.func14, Tryd.ntmps14
    go_wp2
    go_ret2
    exact ⟨rfl, rfl⟩
  · rw [if_neg h5] at hall
    go_enter Tryd.func14, Tryd.ntmps14
    go_wp2
    go_loop [4, 5] (fun u i => ∃ (k : Nat) (s : ByteArray), u = .string s ∧ i = .int .i64 k ∧ k ≤ xs.length ∧ s.data.toList = flat (xs.take k) ∧ s.size ≤ k * 1099511627777 ∧ firstE (Ls (xs.drop k)) = A) (fun _ i => xs.length - (intOf i).toNat)
    case atStart => exact ⟨0, ByteArray.empty, rfl, rfl, by omega, by rfl, by decide, hall.symm⟩
    case round =>
      obtain ⟨k, s, rfl, rfl, hk, hsd, hss, hf⟩ := hrel
      clear hall
      by_cases hlt : k < xs.length
      · obtain ⟨b, o, rfl, hc⟩ := hx (by omega)
        have hcell := hc k hlt
        rw [firstE_at hlt] at hf
        have hsz : (xs.getD k ByteArray.empty).size ≤ 1099511627776 := by
          rw [List.getD_eq_getElem?_getD, List.getElem?_eq_getElem hlt]; exact hs _ (by simp)
        have hft := flat_take hlt
        rw [← hsd] at hft
        clear hsd
        generalize xs.getD k ByteArray.empty = x at *
        have hck := fun w => rcheck_any x w (by omega)
        clear hc
        generalize hC : chk x.data.toList = C at *
        by_cases hz : C = 0
        · rw [if_neg (by simpa using hz)] at hf
          subst hz
          go_wp2_with (go_at_call 12; refine (hck _).mono ?_; rintro e w1 ⟨rfl, rfl⟩)
          go_round
          case rel => exact ⟨k + 1, _, rfl, by go_num, by omega, by rw [hft, cat_data, cat_data], by rw [ByteArray.size_append, ByteArray.size_append]; show s.size + 1 + x.size ≤ _; omega, hf⟩
          case measure => simp [intOf]; omega
        · rw [if_pos hz] at hf
          subst hf
          have hJ := hbad hz
          have hz' : (C != 0) = true := by simpa using hz
          have hz2 : (C == 0) = false := by simpa using hz
          go_wp2_with (go_at_call 12; refine (hck _).mono ?_; rintro e w1 ⟨rfl, rfl⟩)
          go_ret2
          exact ⟨by first | rfl | (rw [hJ]; rfl), rfl⟩
      · obtain rfl : k = xs.length := by omega
        have h0 : firstE (Ls (xs.drop xs.length)) = 0 := by simp [Ls, firstE]
        rw [List.take_length] at hsd
        rw [h0] at hf
        subst hf
        by_cases hn : xs = []
        · subst hn
          have he : (s.toList == []) = true := by rw [ByteArray.toList_eq, hsd]; rfl
          have hJ := hnil rfl
          clear hsd hnil
          go_wp2
          go_ret2
          exact ⟨by first | rfl | (rw [hJ]; rfl), rfl⟩
        · have he : (s.toList == []) = false := by
            rw [ByteArray.toList_eq, hsd]
            cases xs with
            | nil => exact absurd rfl hn
            | cons x t => rfl
          have hJ : J = s := ba_ext ((hflat rfl hn).trans hsd.symm)
          subst hJ
          clear hsd
          go_wp2
          go_ret2
          exact ⟨rfl, rfl⟩
end Go.Proofs.YtkehpgegghhfpaaDoor
