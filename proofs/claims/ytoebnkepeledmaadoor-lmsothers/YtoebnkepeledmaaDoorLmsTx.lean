/- lms: the way up from one's own leaf comes to the root; what one's own keys and signatures say. -/
import Derived.Test.YtoebnkepeledmaaDoorLmsOx
import Derived.Test.YtoebnkepeledmaaDoorGl
namespace Go.Proofs.YtoebnkepeledmaaDoor
open Go Go.RowKit

theorem six_tmod_neg {a n : Int} (hn : 0 < n) (h : a.tmod n < 0) : a.tmod n + n = a % n := by
  have := Int.tmod_eq_emod (a := a) (b := n)
  split at this
  · have h2 := Int.emod_nonneg a (show n ≠ 0 by omega); omega
  · omega
theorem six_tmod_pos {a n : Int} (hn : 0 < n) (h : ¬ a.tmod n < 0) : a.tmod n = a % n := by
  have := Int.tmod_eq_emod (a := a) (b := n)
  have h1 := Int.emod_lt_of_pos a hn
  split at this
  · omega
  · omega
set_option maxRecDepth 20000 in
theorem within6_any (a n : Int) (w : World) (hn : 0 < n) (hn2 : n ≤ 4611686018427387904) :
    Calls Tryd.prog 24 #[.int .i64 a, .int .i64 n] w fun e w' => e = .returned (.int .i64 (a % n)) ∧ w' = w := by
  have hne : (n == 0) = false := by simp; omega
  have hne' : n ≠ 0 := by omega
  have hlo : -n < a.tmod n := by
    have := Int.lt_tmod_of_pos a hn; omega
  by_cases h : a.tmod n < 0
  · have e := six_tmod_neg hn h
    go_enter Tryd.func24, Tryd.ntmps24
    go_wp2
    go_ret
    exact ⟨rfl, rfl⟩
  · have e := six_tmod_pos hn h
    rw [← e]
    go_enter Tryd.func24, Tryd.ntmps24
    go_wp2
    go_ret
    exact ⟨rfl, rfl⟩
theorem xor_both : ∀ m : Fin 64, m.val ^^^ 1 = if m.val % 2 = 0 then m.val + 1 else m.val - 1 := by decide +kernel
theorem climb_node {S : List Int → List Int} (hS : ∀ l, (S l).length = 32) (nm seed : List Int) (h q : Nat) (h5 : h ≤ 5) (hq : q < 2 ^ h) :
    ∀ i, i ≤ h → climbL S nm (2 ^ h + q) (pubL S (nm ++ n4 (q : Int)) seed) (catN (pathF (nodeN S nm seed (2 ^ h)) (2 ^ h + q)) h) i = nodeN S nm seed (2 ^ h) ((2 ^ h + q) / 2 ^ i)
  | 0, _ => by
    rw [climbL, Nat.pow_zero, Nat.div_one, nodeN_leaf, Int.natCast_add]
  | i + 1, hi => by
    have hn32 : 2 ^ h ≤ 32 := by
      have : (2 : Nat) ^ h ≤ 2 ^ 5 := Nat.pow_le_pow_right (by decide) h5
      simpa using this
    have ih := climb_node hS nm seed h q h5 hq i (by omega)
    have hc : cutL (catN (pathF (nodeN S nm seed (2 ^ h)) (2 ^ h + q)) h) (32 * i) = nodeN S nm seed (2 ^ h) (((2 ^ h + q) / 2 ^ i) ^^^ 1) :=
      catN_cut (pathF_len (nodeN_len hS nm seed (2 ^ h)) (2 ^ h + q)) h i (by omega)
    have hr2 : 2 ≤ (2 ^ h + q) / 2 ^ i := by
      rw [Nat.le_div_iff_mul_le (Nat.two_pow_pos i)]
      have : 2 * 2 ^ i ≤ 2 ^ h := by rw [Nat.mul_comm, ← Nat.pow_succ]; exact Nat.pow_le_pow_right (by decide) (by omega)
      omega
    have hrl : (2 ^ h + q) / 2 ^ i ≤ 2 ^ h + q := Nat.div_le_self _ _
    have hd : (2 ^ h + q) / 2 ^ (i + 1) = (2 ^ h + q) / 2 ^ i / 2 := by rw [Nat.div_div_eq_div_mul, Nat.pow_succ]
    rw [climbL, ih, hc, hd, upL]
    generalize (2 ^ h + q) / 2 ^ i = r at *
    have hx := xor_both ⟨r, by omega⟩
    rw [nodeN_above S nm seed (2 ^ h) (r / 2) (by omega)]
    by_cases e : r % 2 = 0
    · rw [if_pos e]
      rw [if_pos e] at hx
      simp only at hx
      rw [hx, show 2 * (r / 2) = r by omega]
    · rw [if_neg e]
      rw [if_neg e] at hx
      simp only at hx
      rw [hx, show 2 * (r / 2) = r - 1 by omega, show r - 1 + 1 = r by omega]
theorem climb_root {S : List Int → List Int} (hS : ∀ l, (S l).length = 32) (nm seed : List Int) (h q : Nat) (h5 : h ≤ 5) (hq : q < 2 ^ h) :
    climbL S nm (2 ^ h + q) (pubL S (nm ++ n4 (q : Int)) seed) (catN (pathF (nodeN S nm seed (2 ^ h)) (2 ^ h + q)) h) h = nodeN S nm seed (2 ^ h) 1 := by
  rw [climb_node hS nm seed h q h5 hq h (Nat.le_refl h)]
  congr 1
  have h1 : 0 < 2 ^ h := Nat.two_pow_pos h
  rw [Nat.div_eq_iff h1]
  omega
theorem gi_app_left {x y : List Int} {k : Nat} (h : k < x.length) : gi (x ++ y) k = gi x k := by
  simp [gi, List.getD_eq_getElem?_getD, List.getElem?_append_left h]
theorem gi_app_right {x y : List Int} {k : Nat} (h : x.length ≤ k) : gi (x ++ y) k = gi y (k - x.length) := by
  simp [gi, List.getD_eq_getElem?_getD, List.getElem?_append_right h]
theorem num4_right {x y : List Int} {k : Nat} (h : x.length ≤ k) : num4 (x ++ y) k = num4 y (k - x.length) := by
  unfold num4
  rw [gi_app_right h, gi_app_right (by omega), gi_app_right (by omega), gi_app_right (by omega), show k + 1 - x.length = k - x.length + 1 by omega, show k + 2 - x.length = k - x.length + 2 by omega, show k + 3 - x.length = k - x.length + 3 by omega]
theorem num4_left {x y : List Int} {k : Nat} (h : k + 4 ≤ x.length) : num4 (x ++ y) k = num4 x k := by
  unfold num4
  rw [gi_app_left (by omega), gi_app_left (by omega), gi_app_left (by omega), gi_app_left (by omega)]
theorem num4_n4 (q : Int) (h : 0 ≤ q ∧ q < 4294967296) : num4 (n4 q) 0 = q := by
  simp only [num4, n4, gi, List.getD_eq_getElem?_getD]
  simp
  omega
theorem key_height {h : Int} {nm top : List Int} (hh : 0 ≤ h ∧ h < 4294967296) : num4 (keyL h nm top) 0 = h := by
  unfold keyL
  rw [num4_left (by simp only [List.length_append, n4_len]; omega), num4_left (by simp only [List.length_append, n4_len]; omega), num4_left (by simp [n4_len]), num4_n4 h hh]
theorem key_type {h : Int} {nm top : List Int} : num4 (keyL h nm top) 4 = 2 := by
  unfold keyL
  rw [num4_left (by simp only [List.length_append, n4_len]; omega), num4_left (by simp only [List.length_append, n4_len]; omega), num4_right (by simp [n4_len]), n4_len, num4_n4 2 (by decide)]
theorem key_name {h : Int} {nm top : List Int} (hn : nm.length = 16) : ((keyL h nm top).drop 8).take 16 = nm := by
  unfold keyL
  rw [List.append_assoc, List.drop_append_of_le_length (by simp [n4_len]), List.drop_of_length_le (by simp [n4_len]), List.nil_append, List.take_append_of_le_length (by omega), List.take_of_length_le (by omega)]
theorem key_top {h : Int} {nm top : List Int} (hn : nm.length = 16) (ht : top.length = 32) : cutL (keyL h nm top) 24 = top := by
  unfold cutL keyL
  rw [List.drop_append_of_le_length (by simp [n4_len, hn]), List.drop_of_length_le (by simp [n4_len, hn]), List.nil_append, List.take_of_length_le (by omega)]
theorem key_good {h : Nat} {nm top : List Int} (hn : nm.length = 16) (ht : top.length = 32) (h1 : 1 ≤ h) (h5 : h ≤ 5) : keyOk (keyL (h : Int) nm top) := by
  have := key_height (h := (h : Int)) (nm := nm) (top := top) (by omega)
  exact ⟨keyL_len hn ht, by omega, by omega, key_type⟩
theorem sig_parts {S : List Int → List Int} (hS : ∀ l, (S l).length = 32) (nm seed : List Int) (h q : Nat) (msg : List Int) (hh : h ≤ 5) (hq : q < 4294967296) :
    num4 (lsigL S nm seed h q msg) 0 = (q : Int) ∧ num4 (lsigL S nm seed h q msg) 4296 = (h : Int) ∧ ((lsigL S nm seed h q msg).drop 4).take 4292 = sigL S (nm ++ n4 (q : Int)) seed msg ∧ (lsigL S nm seed h q msg).drop 4300 = catN (pathF (nodeN S nm seed (2 ^ h)) (2 ^ h + q)) h := by
  have hl := sigL_len hS (nm ++ n4 (q : Int)) seed msg
  unfold lsigL
  generalize sigL S (nm ++ n4 (q : Int)) seed msg = SG at *
  generalize catN (pathF (nodeN S nm seed (2 ^ h)) (2 ^ h + q)) h = PT
  refine ⟨?_, ?_, ?_, ?_⟩
  · rw [num4_left (by simp [n4_len]), num4_left (by simp [n4_len]), num4_left (by simp [n4_len]), num4_n4 _ (by omega)]
  · rw [num4_left (by simp [n4_len, hl]), num4_right (by simp [n4_len, hl]), List.length_append, n4_len, hl, num4_n4 _ (by omega)]
  · rw [List.append_assoc, List.append_assoc, List.drop_append_of_le_length (by simp [n4_len]), List.drop_of_length_le (by simp [n4_len]), List.nil_append, List.take_append_of_le_length (by omega), List.take_of_length_le (by omega)]
  · rw [List.drop_append_of_le_length (by simp [n4_len, hl]), List.drop_of_length_le (by simp [n4_len, hl]), List.nil_append]
theorem sig_type {S : List Int → List Int} (H seed msg : List Int) : (sigL S H seed msg).take 4 = n4 2 := by
  unfold sigL
  rw [List.append_assoc, List.take_append_of_le_length (by simp [n4_len]), List.take_of_length_le (by simp [n4_len])]
end Go.Proofs.YtoebnkepeledmaaDoor
