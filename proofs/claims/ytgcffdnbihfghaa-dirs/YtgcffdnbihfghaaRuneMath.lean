/- One rune, written out: what a range meets there, what the check says of it alone, and what a path with it and one letter more is. Half of a pair (D800 to DFFF) in three bytes is no rune. No program in it. -/
import Derived.Test.YtgcffdnbihfghaaNPath
namespace Go.Proofs.Ytgcffdnbihfghaa
open Go

/-- A rune's bytes. -/
def encL (c : Nat) : List UInt8 :=
  if c < 128 then [UInt8.ofNat c]
  else if c < 2048 then [UInt8.ofNat (192 + c / 64), UInt8.ofNat (128 + c % 64)]
  else if c < 65536 then [UInt8.ofNat (224 + c / 4096), UInt8.ofNat (128 + c / 64 % 64), UInt8.ofNat (128 + c % 64)]
  else [UInt8.ofNat (240 + c / 262144), UInt8.ofNat (128 + c / 4096 % 64), UInt8.ofNat (128 + c / 64 % 64), UInt8.ofNat (128 + c % 64)]
def okR (c : Nat) : Prop := c < 55296 ∨ 57344 ≤ c ∧ c ≤ 1114111
theorem enc_eq (c : Nat) (h : okR c) : (Utf8.encode (c : Int)).data.toList = encL c := by
  have hv : Utf8.valid (c : Int) = true := (valid_iff c).2 h
  unfold Utf8.encode encL
  simp only [hv, if_true, Int.toNat_natCast]
  repeat' split
  all_goals rfl
theorem of_nat (k : Nat) (h : k < 256) : (UInt8.ofNat k).toNat = k := by simp; omega
theorem enc_dec (c : Nat) (h : okR c) (t : List UInt8) : decL (encL c ++ t) = (c, (encL c).length) ∧ brk (encL c ++ t) = false := by
  have key : decL (encL c ++ t) = (c, (encL c).length) ∧ (c ≠ 65533 ∨ (encL c).length ≠ 1) := by
    unfold okR at h
    unfold encL
    split
    · rename_i h1
      refine ⟨?_, by omega⟩
      have e0 := of_nat c (by omega)
      simp only [decL, bt, List.cons_append, List.nil_append, List.getD_cons_zero, e0, if_pos h1, List.length_cons, List.length_nil]
    · rename_i h1
      split
      · rename_i h2
        refine ⟨?_, by omega⟩
        have e0 := of_nat (192 + c / 64) (by omega)
        have e1 := of_nat (128 + c % 64) (by omega)
        simp only [decL, ctn, two, bt, List.cons_append, List.nil_append, List.getD_cons_zero, List.getD_cons_succ, e0, e1, List.length_cons, List.length_nil]
        rw [if_neg (by omega), if_pos (by simp; omega), if_pos (by omega)]
        congr 1; omega
      · rename_i h2
        split
        · rename_i h3
          refine ⟨?_, by simp⟩
          have e0 := of_nat (224 + c / 4096) (by omega)
          have e1 := of_nat (128 + c / 64 % 64) (by omega)
          have e2 := of_nat (128 + c % 64) (by omega)
          simp only [decL, ctn, two, thr, bt, List.cons_append, List.nil_append, List.getD_cons_zero, List.getD_cons_succ, e0, e1, e2, List.length_cons, List.length_nil]
          have ev : (224 + c / 4096) % 16 * 4096 + (128 + c / 64 % 64) % 64 * 64 + (128 + c % 64) % 64 = c := by omega
          rw [if_neg (by omega), if_neg (by simp; omega), if_pos (by simp; omega), ev, if_pos (by simp only [Bool.and_eq_true, decide_eq_true_eq, valid_iff]; omega)]
        · rename_i h3
          refine ⟨?_, by simp⟩
          have e0 := of_nat (240 + c / 262144) (by omega)
          have e1 := of_nat (128 + c / 4096 % 64) (by omega)
          have e2 := of_nat (128 + c / 64 % 64) (by omega)
          have e3 := of_nat (128 + c % 64) (by omega)
          simp only [decL, ctn, two, thr, fou, bt, List.cons_append, List.nil_append, List.getD_cons_zero, List.getD_cons_succ, e0, e1, e2, e3, List.length_cons, List.length_nil]
          have ev : (240 + c / 262144) % 8 * 262144 + (128 + c / 4096 % 64) % 64 * 4096 + (128 + c / 64 % 64) % 64 * 64 + (128 + c % 64) % 64 = c := by omega
          rw [if_neg (by omega), if_neg (by simp; omega), if_neg (by simp; omega), if_pos (by simp; omega), ev, if_pos (by simp only [Bool.and_eq_true, decide_eq_true_eq, valid_iff]; omega)]
  refine ⟨key.1, ?_⟩
  unfold brk
  rw [key.1]
  simp only [beq_eq_false_iff_ne, ne_eq, Prod.mk.injEq, not_and]
  intro e
  rcases key.2 with h | h
  · exact absurd e h
  · exact h
theorem enc_ne (c : Nat) : encL c ≠ [] := by
  unfold encL
  repeat' split
  all_goals simp
theorem enc_len (c : Nat) : 1 ≤ (encL c).length ∧ (encL c).length ≤ 4 := by
  unfold encL
  repeat' split
  all_goals simp
/-- A rune ahead of a text: one step of the check. -/
theorem chkL_enc (f : Nat) (c : Nat) (h : okR c) (t : List UInt8) (b : Bool) (n : Nat) : chkL (f + 1) (encL c ++ t) b n = chkL f t (b || bar c) (n + 1) := by
  obtain ⟨h1, h2⟩ := enc_dec c h t
  rw [chkL_step (by simp [enc_ne]), h2, h1]
  simp
theorem dots_enc (c : Nat) (h : okR c) : dots (encL c) = (c == 46) := by
  unfold okR at h
  unfold encL
  split
  · rename_i h1
    have e0 := of_nat c (by omega)
    rw [Bool.eq_iff_iff]
    simp only [dots, Bool.or_eq_true, beq_iff_eq, List.cons.injEq, and_true, reduceCtorEq, false_or, and_false, or_false]
    constructor
    · intro h; rw [← e0, h]; rfl
    · rintro rfl; rfl
  · rename_i h1
    have : (c == 46) = false := by rw [beq_eq_false_iff_ne]; omega
    rw [this]
    have key : ∀ (k : Nat) (t : List UInt8), 128 ≤ k → k < 256 → dots (UInt8.ofNat k :: t) = false := fun k t h1 h2 => by
      have e0 := of_nat k h2
      have ne : UInt8.ofNat k ≠ 46 := fun e => by rw [e] at e0; simp at e0; omega
      simp [dots, ne]
    repeat' split
    all_goals exact key _ _ (by omega) (by omega)
theorem enc_stroke (c : Nat) (h : okR c) (h47 : c ≠ 47) : (47 : UInt8) ∉ encL c := by
  unfold okR at h
  have key : ∀ k, k ≠ 47 → k < 256 → ¬ (47 : UInt8) = UInt8.ofNat k := fun k h1 h2 e => by
    have e0 := of_nat k h2
    rw [← e] at e0
    exact h1 (by simpa using e0.symm)
  unfold encL
  repeat' split
  all_goals simp only [List.mem_cons, List.not_mem_nil, or_false, not_or]
  · exact key _ h47 (by omega)
  · exact ⟨key _ (by omega) (by omega), key _ (by omega) (by omega)⟩
  · exact ⟨key _ (by omega) (by omega), key _ (by omega) (by omega), key _ (by omega) (by omega)⟩
  · exact ⟨key _ (by omega) (by omega), key _ (by omega) (by omega), key _ (by omega) (by omega), key _ (by omega) (by omega)⟩
def wantR (c : Nat) : Int := if c < 32 ∨ c = 127 ∨ c = 47 ∨ c = 46 then 10 else 0
theorem bar_iff (c : Nat) : bar c = true ↔ c = 47 ∨ c < 32 ∨ c = 127 := by simp [bar, or_assoc]
/-- A rune by itself. -/
theorem chk_enc (c : Nat) (h : okR c) : chk (encL c) = wantR c := by
  unfold chk
  obtain ⟨k, hk⟩ : ∃ k, (encL c).length = k + 1 := ⟨(encL c).length - 1, by have := enc_len c; omega⟩
  have e := chkL_enc k c h [] (dots (encL c)) 0
  rw [List.append_nil, chkL_end] at e
  rw [hk, e, dots_enc c h]
  unfold endE wantR
  have hb := bar_iff c
  by_cases h1 : c < 32 ∨ c = 127 ∨ c = 47 ∨ c = 46
  · rw [if_pos h1, if_pos]
    rcases (by omega : c = 46 ∨ (c = 47 ∨ c < 32 ∨ c = 127)) with h | h
    · subst h; rfl
    · rw [hb.2 h, Bool.or_true]
  · rw [if_neg h1]
    have h2 : bar c = false := by
      cases hq : bar c with
      | false => rfl
      | true => have := hb.1 hq; omega
    have h3 : (c == 46) = false := by rw [beq_eq_false_iff_ne]; omega
    rw [h2, h3]; simp
/-- A rune and an x behind it. -/
theorem chk_encx (c : Nat) (h : okR c) : chk (encL c ++ [120]) = if bar c then 10 else 0 := by
  have h120 : okR 120 := Or.inl (by decide)
  have hx : encL 120 = [120] := rfl
  unfold chk
  obtain ⟨k, hk⟩ : ∃ k, (encL c ++ [120]).length = k + 1 + 1 := ⟨(encL c ++ [120]).length - 2, by have := enc_len c; simp; omega⟩
  have e1 := chkL_enc (k + 1) c h [120] (dots (encL c ++ [120])) 0
  have e2 := chkL_enc k 120 h120 [] (dots (encL c ++ [120]) || bar c) 1
  rw [hx, List.append_nil, chkL_end] at e2
  have hd : dots (encL c ++ [120]) = false := by
    have : (120 : UInt8) ∈ encL c ++ [120] := by simp
    generalize encL c ++ [120] = l at this
    unfold dots
    rw [Bool.or_eq_false_iff, Bool.or_eq_false_iff]
    refine ⟨⟨?_, ?_⟩, ?_⟩ <;> rw [beq_eq_false_iff_ne] <;> rintro rfl <;> simp at this
  rw [hk, e1, e2, hd]
  have hb : bar 120 = false := rfl
  rw [hb]
  unfold endE
  cases bar c <;> simp
/-- '/', a rune, and an x behind it: the error of such a path. -/
theorem splE_enc (c : Nat) (h : okR c) : splE (47 :: (encL c ++ [120])) = if c = 47 ∨ bar c = true then 10 else 0 := by
  have hb : badEnds (47 :: (encL c ++ [120])) = false := by
    unfold badEnds
    rw [Bool.or_eq_false_iff]
    refine ⟨by simp, ?_⟩
    rw [beq_eq_false_iff_ne, show (47 : UInt8) :: (encL c ++ [120]) = (47 :: encL c) ++ [120] by simp, List.getLast?_append]
    simp
  unfold splE
  rw [if_neg (by simp), if_neg (by simp [hb])]
  simp only [List.drop_succ_cons, List.drop_zero]
  by_cases h47 : c = 47
  · subst h47
    rw [if_pos (Or.inl rfl)]
    decide +kernel
  · have hc := cutL_plain (encL c ++ [120]) (by simp [enc_stroke c h h47])
    rw [hc]
    unfold allE firstE firstE
    rw [if_neg (by simp), chk_encx c h]
    cases hq : bar c <;> simp [h47]

/-- Half of a pair, in three bytes. -/
theorem chk_half (a b : Nat) (ha : 32 ≤ a ∧ a < 64) (hb : b < 64) : chk [237, UInt8.ofNat (128 + a), UInt8.ofNat (128 + b)] = 11 := by
  have hbr : brk [237, UInt8.ofNat (128 + a), UInt8.ofNat (128 + b)] = true := by
    have e1 := of_nat (128 + a) (by omega)
    have e2 := of_nat (128 + b) (by omega)
    have e0 : (237 : UInt8).toNat = 237 := rfl
    unfold brk
    rw [beq_iff_eq]
    simp only [decL, ctn, two, thr, bt, List.getD_cons_zero, List.getD_cons_succ, e0, e1, e2, List.length_cons, List.length_nil]
    rw [if_neg (by omega), if_neg (by simp), if_pos (by simp; omega), if_neg]
    simp only [Bool.and_eq_true, decide_eq_true_eq, valid_iff]; omega
  unfold chk
  rw [show ([237, UInt8.ofNat (128 + a), UInt8.ofNat (128 + b)] : List UInt8).length = 2 + 1 from rfl, chkL_step (by simp), hbr]
  rfl
end Go.Proofs.Ytgcffdnbihfghaa
