/- lms: that keys and signatures are bytes; what a byte changed does. -/
import Derived.Test.YtoebnkepeledmaaDoorLmsTx
namespace Go.Proofs.YtoebnkepeledmaaDoor
open Go Go.RowKit

def Oct (l : List Int) : Prop := ∀ x ∈ l, 0 ≤ x ∧ x < 256
theorem oct_app {a b : List Int} (ha : Oct a) (hb : Oct b) : Oct (a ++ b) := fun x hx => by
  rcases List.mem_append.1 hx with h | h
  · exact ha x h
  · exact hb x h
theorem oct_n4 (q : Int) : Oct (n4 q) := fun x hx => by
  simp only [n4, List.mem_cons, List.not_mem_nil, or_false] at hx
  rcases hx with rfl | rfl | rfl | rfl <;> omega
theorem oct_catN {f : Nat → List Int} (hf : ∀ i, Oct (f i)) : ∀ k, Oct (catN f k)
  | 0 => fun x hx => by rw [catN] at hx; cases hx
  | k + 1 => by rw [catN]; exact oct_app (oct_catN hf k) (hf k)
theorem oct_set {l : List Int} {k : Nat} {v : Int} (hl : Oct l) (hv : 0 ≤ v ∧ v < 256) : Oct (l.set k v) := fun x hx => by
  rcases List.mem_or_eq_of_mem_set hx with h | h
  · exact hl x h
  · rw [h]; exact hv
theorem oct_take {l : List Int} (n : Nat) (hl : Oct l) : Oct (l.take n) := fun x hx => hl x (List.mem_of_mem_take hx)
theorem oct_walk {S : List Int → List Int} (hS : ∀ l, Oct (S l)) (H : List Int) (i : Int) (t : List Int) (ht : Oct t) (a : Nat) : ∀ k : Nat, Oct (walkL S H i a k t)
  | 0 => by rw [walkL]; exact ht
  | k + 1 => by rw [walkL]; exact hS _
theorem oct_sig {S : List Int → List Int} (hS : ∀ l, Oct (S l)) (H seed msg : List Int) : Oct (sigL S H seed msg) := by
  unfold sigL
  refine oct_app (oct_app (oct_n4 2) (hS _)) (oct_catN (fun i => ?_) 133)
  unfold zL
  exact oct_walk hS _ _ _ (hS _) _ _
theorem oct_node {S : List Int → List Int} (hS : ∀ l, Oct (S l)) (nm seed : List Int) (n r : Nat) : Oct (nodeN S nm seed n r) := by
  rw [nodeN]; split <;> exact hS _
theorem oct_lsig {S : List Int → List Int} (hS : ∀ l, Oct (S l)) (nm seed : List Int) (h q : Nat) (msg : List Int) : Oct (lsigL S nm seed h q msg) := by
  unfold lsigL
  exact oct_app (oct_app (oct_app (oct_n4 _) (oct_sig hS _ _ _)) (oct_n4 _)) (oct_catN (fun i => oct_node hS _ _ _ _) h)
theorem oct_key {h : Int} {nm top : List Int} (hn : Oct nm) (ht : Oct top) : Oct (keyL h nm top) := by
  unfold keyL
  exact oct_app (oct_app (oct_app (oct_n4 _) (oct_n4 _)) hn) ht
theorem gi_set {l : List Int} {k j : Nat} {v : Int} (hk : k < l.length) : gi (l.set k v) j = if k = j then v else gi l j := by
  unfold gi
  rw [List.getD_eq_getElem?_getD, List.getD_eq_getElem?_getD, List.getElem?_set]
  by_cases h : k = j
  · subst h; simp [hk]
  · simp [h]
theorem key_gi {nm top : List Int} : gi (keyL 1 nm top) 0 = 0 ∧ gi (keyL 1 nm top) 1 = 0 ∧ gi (keyL 1 nm top) 2 = 0 ∧ gi (keyL 1 nm top) 3 = 1 ∧ gi (keyL 1 nm top) 4 = 0 ∧ gi (keyL 1 nm top) 5 = 0 ∧ gi (keyL 1 nm top) 6 = 0 ∧ gi (keyL 1 nm top) 7 = 2 := by
  unfold keyL gi n4
  refine ⟨rfl, rfl, rfl, rfl, rfl, rfl, rfl, rfl⟩
theorem sig_gi {S : List Int → List Int} (hS : ∀ l, (S l).length = 32) (nm seed msg : List Int) : ∀ j, j < 4 → gi (lsigL S nm seed 1 0 msg) (4296 + j) = gi (n4 1) j := fun j hj => by
  unfold lsigL
  have hl := sigL_len hS (nm ++ n4 ((0 : Nat) : Int)) seed msg
  have h2 : (n4 ((0 : Nat) : Int) ++ sigL S (nm ++ n4 ((0 : Nat) : Int)) seed msg).length = 4296 := by rw [List.length_append, n4_len, hl]
  rw [gi_app_left (by rw [List.length_append, h2, n4_len]; omega), gi_app_right (by omega), h2, show 4296 + j - 4296 = j by omega]
  rfl
theorem xor_not : ∀ b : Fin 256, b.val ≠ 0 → bits .xor .u8 2 (b.val : Int) ≠ 2 ∧ 0 ≤ bits .xor .u8 2 (b.val : Int) ∧ bits .xor .u8 2 (b.val : Int) < 256 := by decide +kernel
theorem xor_not1 : ∀ b : Fin 256, b.val ≠ 0 → bits .xor .u8 1 (b.val : Int) ≠ 1 ∧ 0 ≤ bits .xor .u8 1 (b.val : Int) ∧ bits .xor .u8 1 (b.val : Int) < 256 := by decide +kernel
end Go.Proofs.YtoebnkepeledmaaDoor
