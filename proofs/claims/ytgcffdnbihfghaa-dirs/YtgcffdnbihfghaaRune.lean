/- Runes in bytes, as lists: what a range over a text meets at a place, which bytes are broken, and what a check of a name says. No program in it. -/
import Derived.Laws.RangeAny
import Derived.Lib.Strings
namespace Go.Proofs.Ytgcffdnbihfghaa
open Go

def bt (l : List UInt8) (k : Nat) : Nat := (l.getD k 0).toNat
def ctn (l : List UInt8) (k : Nat) : Bool := decide (k < l.length) && (bt l k / 64 == 2)
def two (l : List UInt8) : Nat := (bt l 0 % 32) * 64 + bt l 1 % 64
def thr (l : List UInt8) : Nat := (bt l 0 % 16) * 4096 + (bt l 1 % 64) * 64 + bt l 2 % 64
def fou (l : List UInt8) : Nat := (bt l 0 % 8) * 262144 + (bt l 1 % 64) * 4096 + (bt l 2 % 64) * 64 + bt l 3 % 64
/-- What a range meets at the head of l (l is not empty). -/
def decL (l : List UInt8) : Nat × Nat :=
  if bt l 0 < 128 then (bt l 0, 1)
  else if bt l 0 / 32 == 6 && ctn l 1 then (if two l ≥ 128 then (two l, 2) else (65533, 1))
  else if bt l 0 / 16 == 14 && ctn l 1 && ctn l 2 then (if thr l ≥ 2048 && Utf8.valid (thr l) then (thr l, 3) else (65533, 1))
  else if bt l 0 / 8 == 30 && ctn l 1 && ctn l 2 && ctn l 3 then (if fou l ≥ 65536 && Utf8.valid (fou l) then (fou l, 4) else (65533, 1))
  else (65533, 1)
/-- A byte at the head that belongs to no rune. -/
def brk (l : List UInt8) : Bool := decL l == (65533, 1)
/-- The rune at the head, and its bytes; 0: there is none. -/
def oneL (l : List UInt8) : Nat × Nat := if brk l then (0, 0) else decL l
def bar (r : Nat) : Bool := r == 47 || decide (r < 32) || r == 127
def endE (b : Bool) (n : Nat) : Int := if b then 10 else if 12 < n then 5 else 0
def chkL : Nat → List UInt8 → Bool → Nat → Int
  | 0, _, b, n => endE b n
  | f + 1, l, b, n => if l = [] then endE b n else if brk l then 11 else chkL f (l.drop (decL l).2) (b || bar (decL l).1) (n + 1)
def dots (l : List UInt8) : Bool := l == [] || l == [46] || l == [46, 46]
/-- P301: the error of a name. -/
def chk (l : List UInt8) : Int := chkL l.length l (dots l) 0

theorem bt_lt (l : List UInt8) (k : Nat) : bt l k < 256 := (l.getD k 0).toNat_lt
theorem get_drop (s : ByteArray) (i k : Nat) : (s.get! (i + k)).toNat = bt (s.data.toList.drop i) k := by
  unfold bt
  congr 1
  show s.data[i + k]! = _
  simp only [List.getD_eq_getElem?_getD, List.getElem?_drop, Array.getElem?_toList, Array.getElem!_eq_getD, Array.getD_eq_getD_getElem?]
  rfl
theorem decode_eq (s : ByteArray) (i : Nat) : Utf8.decode s i = decL (s.data.toList.drop i) := by
  have hl : ∀ k, decide (i + k < s.size) = decide (k < (s.data.toList.drop i).length) := fun k => by
    apply decide_eq_decide.2
    simp only [List.length_drop, Array.length_toList]
    show i + k < s.data.size ↔ _
    omega
  simp only [Utf8.decode, decL, ctn, two, thr, fou, get_drop, hl, Utf8.runeError]
  rfl
theorem decL_pos (l : List UInt8) : 1 ≤ (decL l).2 := by
  unfold decL
  repeat' split
  all_goals simp
theorem decL_wide (l : List UInt8) (h : l ≠ []) : (decL l).2 ≤ l.length := by
  have h0 : 1 ≤ l.length := by cases l with | nil => exact absurd rfl h | cons => simp
  unfold decL ctn
  repeat' split
  all_goals simp_all
  all_goals omega
theorem decL_le (l : List UInt8) : (decL l).1 ≤ 1114111 := by
  have h0 := bt_lt l 0
  unfold decL Utf8.valid two
  repeat' split
  all_goals simp_all
  all_goals omega
theorem valid_iff (n : Nat) : Utf8.valid (n : Int) = true ↔ n < 55296 ∨ 57344 ≤ n ∧ n ≤ 1114111 := by
  simp only [Utf8.valid, Bool.or_eq_true, Bool.and_eq_true, decide_eq_true_eq]; omega
/-- Broken: the range's stand-in, and it is not written out. -/
theorem brk_eq (l : List UInt8) : ((decL l).1 == 65533 && !Lib.hasPrefix l [239, 191, 189]) = brk l := by
  have hp : Lib.hasPrefix l [239, 191, 189] = (decide (2 < l.length) && (bt l 0 == 239 && (bt l 1 == 191 && bt l 2 == 189))) := by
    rcases l with _ | ⟨a, _ | ⟨b, _ | ⟨c, t⟩⟩⟩
    · rfl
    · simp [Lib.hasPrefix, List.isPrefixOf]
    · simp [Lib.hasPrefix, List.isPrefixOf]
    · have e : ∀ (x : UInt8) (n : Nat) (hn : n < 256), ((UInt8.ofNat n == x) = (x.toNat == n)) := fun x n hn => by
        rw [Bool.eq_iff_iff]; simp only [beq_iff_eq]
        constructor
        · rintro rfl; simp; omega
        · rintro rfl; simp
      have e1 := e a 239 (by omega); have e2 := e b 191 (by omega); have e3 := e c 189 (by omega)
      simp [Lib.hasPrefix, List.isPrefixOf, bt]
      simp only [UInt8.reduceOfNat] at e1 e2 e3
      rw [e1, e2, e3]
  have h0 := bt_lt l 0; have h1 := bt_lt l 1; have h2 := bt_lt l 2
  rw [hp, Bool.eq_iff_iff]
  unfold brk decL ctn two thr fou
  generalize bt l 0 = a at *; generalize bt l 1 = b at *; generalize bt l 2 = c at *; generalize bt l 3 = d at *
  simp only [Bool.and_eq_true, beq_iff_eq, decide_eq_true_eq, valid_iff, ge_iff_le]
  repeat' split
  all_goals simp only [Bool.not_eq_true', Bool.and_eq_false_iff, beq_eq_false_iff_ne, decide_eq_false_iff_not, Prod.mk.injEq, ne_eq, and_true, true_and]
  all_goals (try rw [iff_true])
  all_goals omega

theorem oneL_zero (l : List UInt8) : ((oneL l).2 = 0) ↔ brk l = true := by
  unfold oneL
  have := decL_pos l
  split
  · simp [*]
  · simp [*]; omega
theorem oneL_of {l : List UInt8} (h : brk l = false) : oneL l = decL l := by simp [oneL, h]
theorem chkL_end (f : Nat) (b : Bool) (n : Nat) : chkL f [] b n = endE b n := by cases f <;> simp [chkL]
theorem chkL_step {f : Nat} {l : List UInt8} (h : l ≠ []) (b : Bool) (n : Nat) : chkL (f + 1) l b n = if brk l then 11 else chkL f (l.drop (decL l).2) (b || bar (decL l).1) (n + 1) := by simp [chkL, h]
/-- More rounds than bytes change nothing. -/
theorem chkL_more : ∀ (f g : Nat) (l : List UInt8) (b : Bool) (n : Nat), l.length ≤ f → l.length ≤ g → chkL f l b n = chkL g l b n
  | 0, g, l, b, n, hf, _ => by
    obtain rfl : l = [] := List.eq_nil_of_length_eq_zero (by omega)
    rw [chkL_end, chkL_end]
  | f + 1, 0, l, b, n, _, hg => by
    obtain rfl : l = [] := List.eq_nil_of_length_eq_zero (by omega)
    rw [chkL_end, chkL_end]
  | f + 1, g + 1, l, b, n, hf, hg => by
    by_cases h : l = []
    · subst h; rw [chkL_end, chkL_end]
    · rw [chkL_step h, chkL_step h]
      have := decL_pos l
      rw [chkL_more f g (l.drop (decL l).2) (b || bar (decL l).1) (n + 1) (by simp; omega) (by simp; omega)]
end Go.Proofs.Ytgcffdnbihfghaa
