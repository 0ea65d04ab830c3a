/- put and number: a number's bytes into a row, and out of bytes. No old memory turns but that row. -/
import Derived.Test.YtgcffdnbihfghaaBMath
namespace Go.Proofs.Ytgcffdnbihfghaa
open Go Go.RowKit
/-- The j-th of k bytes of a number, the highest first. -/
def byK (n : Int) (k j : Nat) : Int := n / 2 ^ (8 * (k - 1 - j)) % 256
/-- The first j of k bytes. -/
def putK (l : List Int) (off : Nat) (n : Int) (k : Nat) : Nat → List Int
  | 0 => l
  | j + 1 => (putK l off n k j).set (off + j) (byK n k j)
theorem putK_len (l : List Int) (off : Nat) (n : Int) (k : Nat) : ∀ j, (putK l off n k j).length = l.length
  | 0 => rfl
  | j + 1 => by simp [putK, putK_len l off n k j]
def bytesK (n : Int) (k : Nat) : List Int := (List.range k).map (byK n k)
theorem bytesK_len (n : Int) (k : Nat) : (bytesK n k).length = k := by simp [bytesK]
theorem putK_gi (l : List Int) (off : Nat) (n : Int) (k : Nat) : ∀ j, off + j ≤ l.length → ∀ i, (putK l off n k j)[i]? = if off ≤ i ∧ i < off + j then some (byK n k (i - off)) else l[i]?
  | 0, _, i => by rw [if_neg (by omega)]; rfl
  | j + 1, h, i => by
    have ih := putK_gi l off n k j (by omega) i
    simp only [putK, List.getElem?_set, putK_len]
    by_cases h1 : off + j = i
    · subst h1; rw [if_pos rfl, if_pos (by omega), if_pos (by omega)]; rw [show off + j - off = j by omega]
    · rw [if_neg h1, ih]
      by_cases h2 : off ≤ i ∧ i < off + j
      · rw [if_pos h2, if_pos (by omega)]
      · rw [if_neg h2, if_neg (by omega)]
theorem putK_all (l : List Int) (off : Nat) (n : Int) (k : Nat) (h : off + k ≤ l.length) : putK l off n k k = spl l off (bytesK n k) := by
  apply List.ext_getElem?
  intro i
  rw [putK_gi l off n k k h i]
  unfold spl
  by_cases h1 : i < off
  · rw [if_neg (by omega), List.getElem?_append_left (by simp; omega), List.getElem?_take_of_lt h1]
  · rw [List.getElem?_append_right (by simp; omega)]
    have e : (l.take off).length = off := by simp; omega
    rw [e]
    by_cases h2 : i < off + k
    · rw [if_pos (by omega), List.getElem?_append_left (by rw [bytesK_len]; omega)]
      simp [bytesK, show i - off < k by omega]
    · rw [if_neg (by omega), List.getElem?_append_right (by rw [bytesK_len]; omega), bytesK_len, List.getElem?_drop]
      congr 1; omega
theorem bytesK_four (n : Int) : bytesK n 4 = n4 n := by
  have e0 : byK n 4 0 = n / 16777216 % 256 := rfl
  have e1 : byK n 4 1 = n / 65536 % 256 := rfl
  have e2 : byK n 4 2 = n / 256 % 256 := rfl
  have e3 : byK n 4 3 = n % 256 := by show n / 2 ^ 0 % 256 = _; rw [Int.pow_zero, Int.ediv_one]
  show [byK n 4 0, byK n 4 1, byK n 4 2, byK n 4 3] = _
  rw [e0, e1, e2, e3]; rfl
set_option maxRecDepth 20000 in
set_option maxHeartbeats 1000000 in
theorem put_any (l : List Int) (n : Int) (g off len cap : Nat) (t : TypeId) (w : World) (hr : Row w g t (v8 l)) (hfit : off + len ≤ l.length) (hlen : len ≤ 8) :
    Calls Try.prog 32 #[.slice (some ⟨g, off, none⟩) len cap, .int .i64 n] w fun e w' => e = .returned (.tuple #[]) ∧ Row w' g t (v8 (spl l off (bytesK n len))) ∧ Fr [g] w w' := by
  go_enter Try.func32, Try.ntmps32
  go_wp2
  go_loopw [7] (fun i wr => ∃ j : Nat, j ≤ len ∧ i = .int .i64 j ∧ Row wr g t (v8 (putK l off n len j)) ∧ Fr [g] w wr) (fun i _ => len - (intOf i).toNat)
  case atStart => exact ⟨0, by omega, rfl, hr, Fr.refl _ _⟩
  case round =>
    obtain ⟨j, hj, rfl, r1, hf⟩ := hrel
    have hl := putK_len l off n len j
    by_cases hlt : j < len
    · have c1 := r1.cell8 (j := off + j) (by omega)
      have f1 := r1.frozen (j := off + j)
      have e1 : byK n len j = n / 2 ^ (8 * (len - 1 - j)) % 256 := rfl
      have e2 : (8 : Int) * ((len : Int) - 1 - (j : Int)) = ((8 * (len - 1 - j) : Nat) : Int) := by omega
      have e3 : 8 * (len - 1 - j) < 64 := by omega
      generalize 8 * (len - 1 - j) = q at e1 e2 e3
      go_wp2
      go_roundw
      case rel => exact ⟨j + 1, by omega, by go_num, by rw [← e1]; exact r1.set8 _ _, hf.setCell (by simp) _⟩
      case measure => simp [intOf]; omega
    · obtain rfl : j = len := by omega
      rw [putK_all _ _ _ _ hfit] at r1
      go_wp2
      go_end0
      exact ⟨rfl, r1, hf⟩
/-- The number that bytes say. -/
def beN (bs : List Int) : Nat → Int
  | 0 => 0
  | k + 1 => beN bs k * 256 + gi bs k
theorem beN_range {bs : List Int} (hb : By bs) : ∀ k, k ≤ bs.length → 0 ≤ beN bs k ∧ beN bs k < 256 ^ k
  | 0, _ => ⟨Int.le_refl _, by show (0 : Int) < 1; decide⟩
  | k + 1, h => by
    have h1 := beN_range hb k (by omega)
    have h2 := gi_by hb k (by omega)
    rw [Int.pow_succ]
    simp only [beN]
    omega
theorem beN_small {bs : List Int} (hb : By bs) {k : Nat} (hk : k ≤ bs.length) (h4 : k ≤ 3) : 0 ≤ beN bs k ∧ beN bs k < 16777216 := by
  have h1 := beN_range hb k hk
  have : (256 : Int) ^ k ≤ 16777216 := by rcases (by omega : k = 0 ∨ k = 1 ∨ k = 2 ∨ k = 3) with rfl | rfl | rfl | rfl <;> decide
  omega
set_option maxRecDepth 20000 in
set_option maxHeartbeats 1000000 in
theorem number_any (bs : List Int) (sp : Option Addr) (cap : Nat) (w : World) (hy : Bytes w sp bs) (hb : By bs) (hl : bs.length ≤ 4) :
    Calls Try.prog 35 #[.slice sp bs.length cap] w fun e w' => e = .returned (.int .i64 (beN bs bs.length)) ∧ w' = w := by
  obtain ⟨n, hn⟩ : ∃ n, n = bs.length := ⟨_, rfl⟩
  rw [← hn]
  go_enter Try.func35, Try.ntmps35
  go_wp2
  go_loop [3, 8] (fun x i => ∃ k : Nat, k ≤ n ∧ i = .int .i64 k ∧ x = .int .i64 (beN bs k)) (fun _ i => n - (intOf i).toNat)
  case atStart => exact ⟨0, by omega, rfl, rfl⟩
  case round =>
    obtain ⟨k, hk, rfl, rfl⟩ := hrel
    by_cases hlt : k < n
    · obtain ⟨b, o, rfl, hcl⟩ := hy (by omega)
      have c1 := hcl k (by omega)
      have q1 := beN_small hb (k := k) (by omega) (by omega)
      have q2 := gi_by hb k (by omega)
      have hor := or_byte (beN bs k) (gi bs k) q1.1 (by omega) q2.1 q2.2
      clear hcl
      go_wp2
      go_round
      case rel => exact ⟨k + 1, by omega, by go_num, rfl⟩
      case measure => simp [intOf]; omega
    · obtain rfl : k = n := by omega
      go_wp2
      go_ret
      exact ⟨rfl, rfl⟩
end Go.Proofs.Ytgcffdnbihfghaa
