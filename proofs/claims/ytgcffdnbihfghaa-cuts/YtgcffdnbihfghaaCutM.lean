/- Fronts of blocks, and blocks with a byte behind: what their readers say. No program in it. No condition. -/
import Derived.Test.YtgcffdnbihfghaaPRoot
import Derived.Test.YtgcffdnbihfghaaInnersWalk
namespace Go.Proofs.Ytgcffdnbihfghaa
open Go Go.RowKit
theorem gi_front {X : List Int} {k j : Nat} (hj : j < k) : gi (X.take k) j = gi X j := by simp [gi, List.getElem?_take_of_lt hj]
theorem gi_more {X Y : List Int} {j : Nat} (hj : j < X.length) : gi (X ++ Y) j = gi X j := by simp [gi, List.getElem?_append_left hj]
theorem sub_front {X : List Int} {k i n : Nat} (h : i + n ≤ k) : ((X.take k).drop i).take n = (X.drop i).take n := by
  rw [List.drop_take, List.take_take, Nat.min_eq_left (by omega)]
theorem sub_more {X Y : List Int} {i n : Nat} (h : i + n ≤ X.length) : ((X ++ Y).drop i).take n = (X.drop i).take n := by
  rw [List.drop_append_of_le_length (by omega), List.take_append_of_le_length (by simp; omega)]
theorem parN_front {X : List Int} {k : Nat} (h : 39 ≤ k) : parN (X.take k) = parN X := by
  unfold parN; rw [gi_front (by omega), gi_front (by omega), sub_front (by omega), sub_front (by omega)]
theorem parN_more {X Y : List Int} (h : 39 ≤ X.length) : parN (X ++ Y) = parN X := by
  unfold parN; rw [gi_more (by omega), gi_more (by omega), sub_more (by omega), sub_more (by omega)]
theorem pErr_ok {X : List Int} (h : pErr X = 0) : X.length = 39 ∧ gi X 0 = 105 ∧ errN (parN X) = 0 := by
  unfold pErr at h
  by_cases h1 : X.length < 39
  · rw [if_pos h1] at h; exact absurd h (by decide)
  rw [if_neg h1] at h
  by_cases h2 : gi X 0 ≠ 105 ∨ errN (parN X) ≠ 0
  · rw [if_pos h2] at h; exact absurd h (by decide)
  rw [if_neg h2] at h
  by_cases h3 : X.length > 39
  · rw [if_pos h3] at h; exact absurd h (by decide)
  · exact ⟨by omega, by omega, by omega⟩
theorem pErr_front {X : List Int} (h : pErr X = 0) (k : Nat) (hk : k ≤ 39) : pErr (X.take k) = if k < 39 then 8 else 0 := by
  obtain ⟨hl, _, _⟩ := pErr_ok h
  by_cases h1 : k < 39
  · rw [if_pos h1]; unfold pErr; rw [if_pos (by simp; omega)]
  · rw [if_neg h1, List.take_of_length_le (by omega), h]
theorem pErr_more {X : List Int} (h : pErr X = 0) (x : Int) : pErr (X ++ [x]) = 9 := by
  obtain ⟨hl, h0, h1⟩ := pErr_ok h
  unfold pErr
  rw [if_neg (by simp; omega), gi_more (by omega), parN_more (by omega), if_neg (by omega), if_pos (by simp; omega)]
theorem qErr_front {F : List Int} {n : Nat} (hF : F.length = 32 * n) (h1 : 1 ≤ n) (h8 : n ≤ 8) (k : Nat) (hk : k ≤ 2 + 32 * n) : qErr (([110, (n : Int)] ++ F).take k) = if k < 2 + 32 * n then 8 else 0 := by
  have hl : ([110, (n : Int)] ++ F : List Int).length = 2 + 32 * n := by simp [hF]; omega
  have g0 : gi ([110, (n : Int)] ++ F) 0 = 110 := rfl
  have g1 : gi ([110, (n : Int)] ++ F) 1 = n := rfl
  generalize ([110, (n : Int)] ++ F) = X at *
  have hkl : (X.take k).length = k := by simp; omega
  unfold qErr
  rw [hkl]
  by_cases h2 : k < 2
  · rw [if_pos h2, if_pos (by omega)]
  · rw [if_neg h2, gi_front (by omega), gi_front (by omega), g0, g1, if_neg (by omega)]
    by_cases h3 : k < 2 + 32 * n
    · rw [if_pos (by omega), if_pos h3]
    · rw [if_neg (by omega), if_neg (by omega), if_neg h3]
theorem qErr_more {F : List Int} {n : Nat} (hF : F.length = 32 * n) (h1 : 1 ≤ n) (h8 : n ≤ 8) (x : Int) : qErr (([110, (n : Int)] ++ F) ++ [x]) = 9 := by
  have hl : ([110, (n : Int)] ++ F : List Int).length = 2 + 32 * n := by simp [hF]; omega
  have g0 : gi ([110, (n : Int)] ++ F) 0 = 110 := rfl
  have g1 : gi ([110, (n : Int)] ++ F) 1 = n := rfl
  generalize ([110, (n : Int)] ++ F) = X at *
  have hkl : (X ++ [x]).length = 3 + 32 * n := by simp; omega
  unfold qErr
  rw [hkl, if_neg (by omega), gi_more (by omega), gi_more (by omega), g0, g1, if_neg (by omega), if_neg (by omega), if_pos (by omega)]
theorem encR_head {pub node sig : List Int} (hp : pub.length = 56) (hn : node.length = 32) (hs : sig.length ≤ 5000) : gi (encR pub 7 node sig) 0 = 114 ∧ beN (((encR pub 7 node sig).drop 57).take 4) 4 = 7 ∧ beN (((encR pub 7 node sig).drop 93).take 2) 2 = (sig.length : Int) := by
  have hA : ([114] ++ pub : List Int).length = 57 := by simp [hp]
  have hB : ([114] ++ pub ++ n4 7 ++ node : List Int).length = 93 := by simp [hp, hn, n4_len]
  refine ⟨rfl, ?_, ?_⟩
  · have e : encR pub 7 node sig = ([114] ++ pub) ++ (n4 7 ++ (node ++ n2 (sig.length : Int) ++ sig)) := by simp [encR]
    have e2 : ((encR pub 7 node sig).drop 57).take 4 = n4 7 := by
      rw [e, ← hA, List.drop_left]; rfl
    rw [e2]; rfl
  · have e : encR pub 7 node sig = ([114] ++ pub ++ n4 7 ++ node) ++ (n2 (sig.length : Int) ++ sig) := by simp [encR]
    have e2 : ((encR pub 7 node sig).drop 93).take 2 = n2 (sig.length : Int) := by
      rw [e, ← hB, List.drop_left]; rfl
    rw [e2]
    show (0 * 256 + (sig.length : Int) / 256 % 256) * 256 + (sig.length : Int) % 256 = _
    omega
theorem rErr_front {pub node sig : List Int} (hp : pub.length = 56) (hn : node.length = 32) (hs : sig.length ≤ 5000) (k : Nat) (hk : k ≤ 95 + sig.length) : rErr ((encR pub 7 node sig).take k) = if k < 95 + sig.length then 8 else 0 := by
  have hl := encR_len (sig := sig) (ver := 7) hp hn
  obtain ⟨_, _, h2⟩ := encR_head hp hn hs
  have hkl : ((encR pub 7 node sig).take k).length = k := by simp; omega
  unfold rErr
  rw [hkl]
  by_cases h3 : k < 95
  · rw [if_pos h3, if_pos (by omega)]
  · rw [if_neg h3, sub_front (by omega), h2]
    by_cases h4 : k < 95 + sig.length
    · rw [if_pos (by omega), if_pos h4]
    · rw [if_neg (by omega), if_neg (by omega), if_neg h4]
theorem rErr_more {pub node sig : List Int} (hp : pub.length = 56) (hn : node.length = 32) (hs : sig.length ≤ 5000) (x : Int) : rErr (encR pub 7 node sig ++ [x]) = 9 := by
  have hl := encR_len (sig := sig) (ver := 7) hp hn
  obtain ⟨_, _, h2⟩ := encR_head hp hn hs
  have hkl : (encR pub 7 node sig ++ [x]).length = 96 + sig.length := by simp; omega
  unfold rErr
  rw [hkl, if_neg (by omega), sub_more (by omega), h2, if_neg (by omega), if_pos (by omega)]
theorem head_front {pub node sig : List Int} (hp : pub.length = 56) (hn : node.length = 32) (hs : sig.length ≤ 5000) (k : Nat) : 95 ≤ ((encR pub 7 node sig).take k).length → gi ((encR pub 7 node sig).take k) 0 = 114 ∧ 1 ≤ beN ((((encR pub 7 node sig).take k).drop 57).take 4) 4 ∧ beN ((((encR pub 7 node sig).take k).drop 57).take 4) 4 ≤ 2147483647 ∧ beN ((((encR pub 7 node sig).take k).drop 93).take 2) 2 ≤ 5000 := fun h => by
  obtain ⟨h0, h1, h2⟩ := encR_head hp hn hs
  have hk : 95 ≤ k := by simp at h; omega
  rw [gi_front (by omega), sub_front (by omega), sub_front (by omega), h0, h1, h2]
  omega
theorem head_more {pub node sig : List Int} (hp : pub.length = 56) (hn : node.length = 32) (hs : sig.length ≤ 5000) (x : Int) : 95 ≤ (encR pub 7 node sig ++ [x]).length → gi (encR pub 7 node sig ++ [x]) 0 = 114 ∧ 1 ≤ beN (((encR pub 7 node sig ++ [x]).drop 57).take 4) 4 ∧ beN (((encR pub 7 node sig ++ [x]).drop 57).take 4) 4 ≤ 2147483647 ∧ beN (((encR pub 7 node sig ++ [x]).drop 93).take 2) 2 ≤ 5000 := fun _ => by
  obtain ⟨h0, h1, h2⟩ := encR_head hp hn hs
  have hl := encR_len (sig := sig) (ver := 7) hp hn
  rw [gi_more (by omega), sub_more (by omega), sub_more (by omega), h0, h1, h2]
  omega
theorem by_encR {pub node sig : List Int} (hp : By pub) (hn : By node) (hs : By sig) : By (encR pub 7 node sig) := by
  unfold encR
  refine By.append (By.append (By.append (By.append (By.append (by_one (by omega)) hp) (by_n4 7)) hn) (fun x hx => ?_)) hs
  simp only [n2, List.mem_cons, List.not_mem_nil, or_false] at hx
  rcases hx with rfl | rfl <;> omega
end Go.Proofs.Ytgcffdnbihfghaa
