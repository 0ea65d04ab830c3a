/- NamesRunes returns true and turns no old memory, for any number, where MaxLen holds some number. -/
import Derived.Test.YtkehpgegghhfpaaDoorKnown
import Derived.Test.YtkehpgegghhfpaaDoorWithin
import Derived.Test.YtkehpgegghhfpaaDoorRuneMath
import Derived.Laws.Cover4
import Derived.Laws.BytesArg
namespace Go.Proofs.YtkehpgegghhfpaaDoor
open Go.RowKit

theorem mask63 (a : Nat) : bits .and .i64 (a : Int) 63 = ((a % 64 : Nat) : Int) := by
  have h63 : (BitVec.ofInt 64 63).toNat = 2 ^ 6 - 1 := by decide
  have key : (BitVec.ofInt 64 (a : Int) &&& BitVec.ofInt 64 63).toNat = ((a : Int) % ((2 ^ 64 : Nat) : Int)).toNat % 2 ^ 6 := by
    rw [BitVec.toNat_and, BitVec.toNat_ofInt, h63, Nat.and_two_pow_sub_one_eq_mod]
  show IntKind.i64.wrap ((BitVec.ofInt 64 (a : Int) &&& BitVec.ofInt 64 63).toNat : Nat) = _
  rw [key, IntKind.wrap_i64]
  omega
theorem join128 (a : Nat) (h : a < 64) : bits .or .u8 128 (a : Int) = ((128 + a : Nat) : Int) := by
  have e := u8_or_nat 128 a (by decide) (by omega)
  rw [nat_join 7 128 a (by decide) (by omega)] at e
  exact e
/-- A text of three bytes that were just written out. -/
theorem conv3 (x y z : Int) (S : ByteArray) (hS : strOfNums [x, y, z] = S) (w : World) : (convert 44 9 (.slice (some ⟨w.heap.size, 0, none⟩) 3 3)).run Tryd.prog (w.alloc (.cells #[.int .u8 x, .int .u8 y, .int .u8 z] 5)) = .ok (.string S) (w.alloc (.cells #[.int .u8 x, .int .u8 y, .int .u8 z] 5)) := by
  have hr := Row.new w 5 #[.int .u8 x, .int .u8 y, .int .u8 z]
  have h := run_convert_bytes_arg (P := Tryd.prog) (w.alloc (.cells #[.int .u8 x, .int .u8 y, .int .u8 z] 5)) 44 5 Tryd.underlying44 Tryd.underlying5 w.heap.size 0 3 3 [x, y, z] rfl (fun i hi => by
    rw [Nat.zero_add, hr.cell]
    match i, hi with
    | 0, _ | 1, _ | 2, _ => rfl) 9 Tryd.underlying9
  rw [h, hS]
/-- A text of one rune that was just written out. -/
theorem conv1 (r : Nat) (w : World) : (convert 45 9 (.slice (some ⟨w.heap.size, 0, none⟩) 1 1)).run Tryd.prog (w.alloc (.cells #[.int .i32 (r : Int)] 21)) = .ok (.string (Utf8.encode (r : Int))) (w.alloc (.cells #[.int .i32 (r : Int)] 21)) := by
  have hr := Row.new w 21 #[.int .i32 (r : Int)]
  have h := run_convert_runes (P := Tryd.prog) (w.alloc (.cells #[.int .i32 (r : Int)] 21)) 45 9 21 ⟨w.heap.size, 0, none⟩ 1 1 [(r : Int)] (Nat.le_refl _) Tryd.underlying45 Tryd.underlying21 Tryd.underlying9 (fun j hj => by
    match j, hj with
    | 0, _ => exact hr.cell (j := 0))
  rw [h]
  have e : runesBytes (List.take 1 [(r : Int)]) = Utf8.encode (r : Int) := by
    apply ba_ext
    show (ByteArray.empty ++ Utf8.encode (r : Int)).data.toList = _
    rw [cat_data]
    show [] ++ _ = _
    rw [List.nil_append]
  rw [e]

set_option maxRecDepth 20000 in
set_option maxHeartbeats 1000000 in
theorem runes_half (n : Int) (r : Nat) (w : World) (hm : MaxOk w) (hr : n % 1114112 = r) (h1 : 55296 ≤ r) (h2 : r ≤ 57343) :
    Calls Tryd.prog 6 #[.int .i64 n] w fun e w' => e = .returned (.bool true) ∧ Below w.heap.size w w' := by
  have hw10 := fun w1 => within_any n 1114112 w1 (by decide) (by decide)
  rw [hr] at hw10
  obtain ⟨a, ha⟩ : ∃ a, r / 64 % 64 = a := ⟨_, rfl⟩
  obtain ⟨b, hb⟩ : ∃ b, r % 64 = b := ⟨_, rfl⟩
  have m1 : bits .and .i64 ((r : Int) / 64) 63 = (a : Int) := by have := mask63 (r / 64); rw [ha] at this; exact this
  have m2 : bits .and .i64 (r : Int) 63 = (b : Int) := by have := mask63 r; rw [hb] at this; exact this
  have a1 : 32 ≤ a ∧ a < 64 := by omega
  have b1 : b < 64 := by omega
  have j1 := join128 a a1.2
  have j2 := join128 b b1
  have d1 : 224 + (r : Int) / 4096 = ((237 : Nat) : Int) := by omega
  have d2 : (a : Int) % 256 = a := by omega
  have d3 : (b : Int) % 256 = b := by omega
  obtain ⟨S, hS⟩ : ∃ S : ByteArray, S = ⟨#[UInt8.ofNat 237, UInt8.ofNat (128 + a), UInt8.ofNat (128 + b)]⟩ := ⟨_, rfl⟩
  have hSz : S.size = 3 := by rw [hS]; rfl
  have hSd : S.data.toList = [237, UInt8.ofNat (128 + a), UInt8.ofNat (128 + b)] := by rw [hS]; rfl
  have hck := fun w1 => check_any S w1 (by omega)
  rw [hSd, chk_half a b a1 b1] at hck
  have cv := conv3 237 (128 + (a : Int)) (128 + (b : Int)) S (by
    rw [hS]
    unfold strOfNums
    simp only [List.map_cons, List.map_nil]
    rw [show (128 + (a : Int)).toNat = 128 + a by omega, show (128 + (b : Int)).toNat = 128 + b by omega]
    rfl)
  clear hSd hS
  clear ha hb
  go_enter Tryd.func6, Tryd.ntmps6
  go_wp2_with (first | (go_at_call 8; (with_reducible refine Calls.mono (known_any _ hm) ?_); rintro e w1 ⟨rfl, hb1⟩; have hm1 := hm.below hb1 (Nat.le_refl _)) | (go_at_call 10; (with_reducible refine Calls.mono (hw10 _) ?_); rintro e w2 ⟨rfl, hw⟩; obtain rfl := hw.symm; clear hw) | (go_at_call 11; (with_reducible refine Calls.mono (hck _) ?_); rintro e w3 ⟨rfl, hb3⟩))
  go_ret
  exact ⟨rfl, hb1.trans (((Below.refl _ _).alloc (Nat.le_refl _) _).trans (hb3.mono (by simp)) |>.mono hb1.size)⟩

/-- names.Split, where the error is known ahead. -/
theorem split_err (s : ByteArray) (E : Int) (w : World) (hs : s.size < 4294967281) (hm : MaxOk w) (hE : splE s.data.toList = E) :
    Calls Tryd.prog 15 #[.string s] w fun e w' => ∃ (p : Option Addr) (l c : Nat), e = .returned (.tuple #[.slice p l c, .int .i64 E]) ∧ Below w.heap.size w w' := by
  refine (split_any s w hs hm).mono ?_
  rintro e w' ⟨p, c, zs, rfl, h1, h2, h3, h4⟩
  exact ⟨p, _, c, by rw [hE], h4⟩

set_option maxRecDepth 20000 in
set_option maxHeartbeats 1000000 in
theorem runes_walk (n : Int) (r : Nat) (S : ByteArray) (C E : Int) (w : World) (hm : MaxOk w) (hr : n % 1114112 = r) (hk : r < 55296 ∨ 57344 ≤ r) (hr2 : r ≤ 1114111) (hSz : S.size ≤ 4)
    (cv : ∀ w : World, (convert 45 9 (.slice (some ⟨w.heap.size, 0, none⟩) 1 1)).run Tryd.prog (w.alloc (.cells #[.int .i32 (r : Int)] 21)) = .ok (.string S) (w.alloc (.cells #[.int .i32 (r : Int)] 21)))
    (hck : ∀ w, Calls Tryd.prog 11 #[.string S] w fun e w' => e = .returned (.int .i64 C) ∧ Below w.heap.size w w')
    (hsp : ∀ w, MaxOk w → Calls Tryd.prog 15 #[.string (⟨#[47]⟩ ++ S ++ ⟨#[120]⟩)] w fun e w' => ∃ (p : Option Addr) (l c : Nat), e = .returned (.tuple #[.slice p l c, .int .i64 E]) ∧ Below w.heap.size w w')
    (hC : C = if r < 32 ∨ r = 127 ∨ r = 47 ∨ r = 46 then 10 else 0) (hE : E = if r = 46 then 0 else C) :
    Calls Tryd.prog 6 #[.int .i64 n] w fun e w' => e = .returned (.bool true) ∧ Below w.heap.size w w' := by
  have hw10 := fun w1 => within_any n 1114112 w1 (by decide) (by decide)
  rw [hr] at hw10
  clear hr
  have hge : (decide ((55296 : Int) ≤ (r : Int)) && decide ((r : Int) ≤ 57343)) = false := by
    rw [Bool.and_eq_false_iff, decide_eq_false_iff_not, decide_eq_false_iff_not]; omega
  by_cases h46 : r = 46
  · obtain rfl : C = 10 := by rw [hC, h46]; decide
    obtain rfl : E = 0 := by rw [hE, h46]; rfl
    have q46 : ((r : Int) == 46) = true := by subst h46; rfl
    have q47 : ((r : Int) == 47) = false := by subst h46; rfl
    have q127 : ((r : Int) == 127) = false := by subst h46; rfl
    have q1 : decide ((r : Int) < 32) = false := by subst h46; rfl
    have q2 : decide ((55296 : Int) ≤ (r : Int)) = false := by subst h46; rfl
    have hr9 : r < 200 := by omega
    clear hC hE hk hr2 hge h46
    go_enter Tryd.func6, Tryd.ntmps6
    go_wp2_with (first | (go_at_call 8; (with_reducible refine Calls.mono (known_any _ hm) ?_); rintro e w1 ⟨rfl, hb1⟩; have hm1 := hm.below hb1 (Nat.le_refl _)) | (go_at_call 10; (with_reducible refine Calls.mono (hw10 _) ?_); rintro e w2 ⟨rfl, hw⟩; obtain rfl := hw.symm; clear hw) | (go_at_call 15; (with_reducible refine Calls.mono (hsp _ (hm1.below ((Below.refl _ _).alloc (Nat.le_refl _) _) (Nat.le_refl _))) ?_); rintro e w3 ⟨p, l, c, rfl, hb3⟩) | (go_at_call 11; (with_reducible refine Calls.mono (hck _) ?_); rintro e w4 ⟨rfl, hb4⟩))
    go_ret
    exact ⟨rfl, hb1.trans ((((Below.refl _ _).alloc (Nat.le_refl _) _).trans ((hb3.trans (hb4.mono hb3.size)).mono (by simp))).mono hb1.size)⟩
  by_cases h47 : r = 47
  · obtain rfl : C = 10 := by rw [hC, h47]; decide
    obtain rfl : E = 10 := by rw [hE, h47]; rfl
    have q46 : ((r : Int) == 46) = false := by subst h47; rfl
    have q47 : ((r : Int) == 47) = true := by subst h47; rfl
    have q127 : ((r : Int) == 127) = false := by subst h47; rfl
    have q1 : decide ((r : Int) < 32) = false := by subst h47; rfl
    have q2 : decide ((55296 : Int) ≤ (r : Int)) = false := by subst h47; rfl
    have hr9 : r < 200 := by omega
    clear hC hE hk hr2 hge h47 h46
    go_enter Tryd.func6, Tryd.ntmps6
    go_wp2_with (first | (go_at_call 8; (with_reducible refine Calls.mono (known_any _ hm) ?_); rintro e w1 ⟨rfl, hb1⟩; have hm1 := hm.below hb1 (Nat.le_refl _)) | (go_at_call 10; (with_reducible refine Calls.mono (hw10 _) ?_); rintro e w2 ⟨rfl, hw⟩; obtain rfl := hw.symm; clear hw) | (go_at_call 15; (with_reducible refine Calls.mono (hsp _ (hm1.below ((Below.refl _ _).alloc (Nat.le_refl _) _) (Nat.le_refl _))) ?_); rintro e w3 ⟨p, l, c, rfl, hb3⟩) | (go_at_call 11; (with_reducible refine Calls.mono (hck _) ?_); rintro e w4 ⟨rfl, hb4⟩))
    go_ret
    exact ⟨rfl, hb1.trans ((((Below.refl _ _).alloc (Nat.le_refl _) _).trans ((hb3.trans (hb4.mono hb3.size)).mono (by simp))).mono hb1.size)⟩
  rw [if_neg h46] at hE
  subst hE
  have q46 : ((r : Int) == 46) = false := by rw [beq_eq_false_iff_ne]; omega
  have q47 : ((r : Int) == 47) = false := by rw [beq_eq_false_iff_ne]; omega
  by_cases h32 : r < 32
  · obtain rfl : E = 10 := by rw [hC, if_pos (Or.inl h32)]
    have q1 : decide ((r : Int) < 32) = true := by simp; omega
    have q2 : decide ((55296 : Int) ≤ (r : Int)) = false := by simp; omega
    clear hC hk hr2 hge
    go_enter Tryd.func6, Tryd.ntmps6
    go_wp2_with (first | (go_at_call 8; (with_reducible refine Calls.mono (known_any _ hm) ?_); rintro e w1 ⟨rfl, hb1⟩; have hm1 := hm.below hb1 (Nat.le_refl _)) | (go_at_call 10; (with_reducible refine Calls.mono (hw10 _) ?_); rintro e w2 ⟨rfl, hw⟩; obtain rfl := hw.symm; clear hw) | (go_at_call 15; (with_reducible refine Calls.mono (hsp _ (hm1.below ((Below.refl _ _).alloc (Nat.le_refl _) _) (Nat.le_refl _))) ?_); rintro e w3 ⟨p, l, c, rfl, hb3⟩) | (go_at_call 11; (with_reducible refine Calls.mono (hck _) ?_); rintro e w4 ⟨rfl, hb4⟩))
    go_ret
    exact ⟨rfl, hb1.trans ((((Below.refl _ _).alloc (Nat.le_refl _) _).trans ((hb3.trans (hb4.mono hb3.size)).mono (by simp))).mono hb1.size)⟩
  have q1 : decide ((r : Int) < 32) = false := by simp; omega
  by_cases h127 : r = 127
  · obtain rfl : E = 10 := by rw [hC, h127]; decide
    have q127 : ((r : Int) == 127) = true := by subst h127; rfl
    have q2 : decide ((55296 : Int) ≤ (r : Int)) = false := by subst h127; rfl
    have hr9 : r < 200 := by omega
    clear hC hk hr2 hge h127 h46 h47 h32
    go_enter Tryd.func6, Tryd.ntmps6
    go_wp2_with (first | (go_at_call 8; (with_reducible refine Calls.mono (known_any _ hm) ?_); rintro e w1 ⟨rfl, hb1⟩; have hm1 := hm.below hb1 (Nat.le_refl _)) | (go_at_call 10; (with_reducible refine Calls.mono (hw10 _) ?_); rintro e w2 ⟨rfl, hw⟩; obtain rfl := hw.symm; clear hw) | (go_at_call 15; (with_reducible refine Calls.mono (hsp _ (hm1.below ((Below.refl _ _).alloc (Nat.le_refl _) _) (Nat.le_refl _))) ?_); rintro e w3 ⟨p, l, c, rfl, hb3⟩) | (go_at_call 11; (with_reducible refine Calls.mono (hck _) ?_); rintro e w4 ⟨rfl, hb4⟩))
    go_ret
    exact ⟨rfl, hb1.trans ((((Below.refl _ _).alloc (Nat.le_refl _) _).trans ((hb3.trans (hb4.mono hb3.size)).mono (by simp))).mono hb1.size)⟩
  have q127 : ((r : Int) == 127) = false := by rw [beq_eq_false_iff_ne]; omega
  obtain rfl : E = 0 := by rw [hC, if_neg (by omega)]
  clear hC
  rcases hk with hk | hk
  · have q2 : decide ((55296 : Int) ≤ (r : Int)) = false := by simp; omega
    clear hge hr2
    go_enter Tryd.func6, Tryd.ntmps6
    go_wp2_with (first | (go_at_call 8; (with_reducible refine Calls.mono (known_any _ hm) ?_); rintro e w1 ⟨rfl, hb1⟩; have hm1 := hm.below hb1 (Nat.le_refl _)) | (go_at_call 10; (with_reducible refine Calls.mono (hw10 _) ?_); rintro e w2 ⟨rfl, hw⟩; obtain rfl := hw.symm; clear hw) | (go_at_call 15; (with_reducible refine Calls.mono (hsp _ (hm1.below ((Below.refl _ _).alloc (Nat.le_refl _) _) (Nat.le_refl _))) ?_); rintro e w3 ⟨p, l, c, rfl, hb3⟩) | (go_at_call 11; (with_reducible refine Calls.mono (hck _) ?_); rintro e w4 ⟨rfl, hb4⟩))
    go_ret
    exact ⟨rfl, hb1.trans ((((Below.refl _ _).alloc (Nat.le_refl _) _).trans ((hb3.trans (hb4.mono hb3.size)).mono (by simp))).mono hb1.size)⟩
  · have q2 : decide ((55296 : Int) ≤ (r : Int)) = true := by simp; omega
    have q3 : decide ((r : Int) ≤ 57343) = false := by simp; omega
    clear hge
    go_enter Tryd.func6, Tryd.ntmps6
    go_wp2_with (first | (go_at_call 8; (with_reducible refine Calls.mono (known_any _ hm) ?_); rintro e w1 ⟨rfl, hb1⟩; have hm1 := hm.below hb1 (Nat.le_refl _)) | (go_at_call 10; (with_reducible refine Calls.mono (hw10 _) ?_); rintro e w2 ⟨rfl, hw⟩; obtain rfl := hw.symm; clear hw) | (go_at_call 15; (with_reducible refine Calls.mono (hsp _ (hm1.below ((Below.refl _ _).alloc (Nat.le_refl _) _) (Nat.le_refl _))) ?_); rintro e w3 ⟨p, l, c, rfl, hb3⟩) | (go_at_call 11; (with_reducible refine Calls.mono (hck _) ?_); rintro e w4 ⟨rfl, hb4⟩))
    go_ret
    exact ⟨rfl, hb1.trans ((((Below.refl _ _).alloc (Nat.le_refl _) _).trans ((hb3.trans (hb4.mono hb3.size)).mono (by simp))).mono hb1.size)⟩

theorem runes_any (n : Int) (w : World) (hm : MaxOk w) : Calls Tryd.prog 6 #[.int .i64 n] w fun e w' => e = .returned (.bool true) ∧ Below w.heap.size w w' := by
  have h0 := Int.emod_nonneg n (show (1114112 : Int) ≠ 0 by decide)
  have h1 := Int.emod_lt_of_pos n (show (0 : Int) < 1114112 by decide)
  obtain ⟨r, hr⟩ : ∃ r : Nat, n % 1114112 = r := ⟨(n % 1114112).toNat, by omega⟩
  by_cases hh : 55296 ≤ r ∧ r ≤ 57343
  · exact runes_half n r w hm hr hh.1 hh.2
  · have ok : okR r := by unfold okR; omega
    have hd := enc_eq r ok
    have hz := enc_len r
    have hS : (Utf8.encode (r : Int)).size ≤ 4 := by rw [← size_data, hd]; exact hz.2
    have hp : (⟨#[47]⟩ ++ Utf8.encode (r : Int) ++ ⟨#[120]⟩ : ByteArray).data.toList = 47 :: (encL r ++ [120]) := by
      rw [cat_data, cat_data, hd]; simp
    have hps : (⟨#[47]⟩ ++ Utf8.encode (r : Int) ++ ⟨#[120]⟩ : ByteArray).size ≤ 6 := by
      rw [← size_data, hp]; simp; omega
    have hb := bar_iff r
    refine runes_walk n r (Utf8.encode (r : Int)) (wantR r) (if r = 47 ∨ bar r = true then 10 else 0) w hm hr (by omega) (by omega) hS (conv1 r) (fun w => ?_) (fun w h => split_err _ _ w (by omega) h (by rw [hp]; exact splE_enc r ok)) rfl ?_
    · have := check_any (Utf8.encode (r : Int)) w (by omega)
      rw [hd, chk_enc r ok] at this
      exact this
    · unfold wantR
      by_cases h46 : r = 46
      · subst h46; decide
      · rw [if_neg h46]
        by_cases hq : r = 47 ∨ bar r = true
        · rw [if_pos hq, if_pos]
          rcases hq with h | h
          · omega
          · have := hb.1 h; omega
        · rw [if_neg hq, if_neg]
          intro h
          exact hq (Or.inr (hb.2 (by rcases h with h | h | h | h <;> first | omega | exact absurd h h46)))
end Go.Proofs.YtkehpgegghhfpaaDoor
