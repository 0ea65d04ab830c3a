/- IdentCarries returns true and turns no old memory, for any two numbers. -/
import Derived.Test.YtkmhnpkkkhglpaaAdd
import Derived.Test.YtkmhnpkkkhglpaaKnown
import Derived.Deep.CutRange
namespace Go.Proofs.Ytkmhnpkkkhglpaa
open Go.RowKit

theorem gi_zero : ∀ p, p < 32 → gi zero32 p = 0 := by decide
theorem gi_le_num {l : List Int} (hl : Id32 l) {p : Nat} (hp : p < 32) : gi l p * 256 ^ (31 - p) ≤ num l := by
  have h := num_set l p 0 (by rw [hl.1]; exact hp)
  have hb := num_bound _ (hl.2.set p (x := 0) (by omega))
  rw [hl.1, show 32 - 1 - p = 31 - p by omega, Int.zero_sub, Int.neg_mul] at h
  omega
theorem byte_lt {l : List Int} (hl : Id32 l) {j : Nat} (hj : j < 256) (h : num l < 2 ^ j) : gi l (31 - j / 8) < 2 ^ (j % 8) := by
  have h1 := gi_le_num hl (p := 31 - j / 8) (by omega)
  rw [show 31 - (31 - j / 8) = j / 8 by omega] at h1
  rw [two_pow] at h
  have hp := pw_pos (j / 8)
  exact Int.lt_of_mul_lt_mul_right (Int.lt_of_le_of_lt h1 h) (by omega)
theorem set_bit {l : List Int} (hl : Id32 l) {j : Nat} (hj : j < 256) (y : Int) : num (l.set (31 - j / 8) (gi l (31 - j / 8) + y)) = num l + y * 256 ^ (j / 8) := by
  rw [num_set l _ _ (by rw [hl.1]; omega), hl.1, show 32 - 1 - (31 - j / 8) = j / 8 by omega]
  congr 2; omega
theorem or_bit : ∀ x : Nat, x < 256 → ∀ r : Nat, r < 8 → x < 2 ^ r → bits .or .u8 (x : Int) (2 ^ r) = (x : Int) + 2 ^ r := by decide +kernel

theorem zsize' {l : List Int} (hl : Id32 l) : (v8 zero32).size = (v8 l).size := by rw [v8_size, v8_size, hl.1, id_zero.1]

set_option maxRecDepth 20000 in
set_option maxHeartbeats 1000000 in
theorem carries_early (k n : Int) (w : World) (h : k < 0 ∨ 255 < k ∨ n < 0) :
    Calls Try.prog 7 #[.int .i64 k, .int .i64 n] w fun e w' => e = .returned (.bool true) ∧ Below w.heap.size w w' := by
  by_cases h1 : k < 0
  · have g1 : decide (k < 0) = true := by simpa using h1
    go_enter Try.func7, Try.ntmps7
    go_wp2_with (first | (go_at_call 8; with_reducible refine Calls.mono (known_any _) ?_; rintro e wk ⟨rfl, hbk⟩))
    go_ret
    exact ⟨rfl, hbk⟩
  · have g1 : decide (k < 0) = false := by simpa using h1
    by_cases h2 : 255 < k
    · have g2 : decide (255 < k) = true := by simpa using h2
      go_enter Try.func7, Try.ntmps7
      go_wp2_with (first | (go_at_call 8; with_reducible refine Calls.mono (known_any _) ?_; rintro e wk ⟨rfl, hbk⟩))
      go_ret
      exact ⟨rfl, hbk⟩
    · have g2 : decide (255 < k) = false := by simpa using h2
      have g3 : decide (n < 0) = true := by simp; omega
      go_enter Try.func7, Try.ntmps7
      go_wp2_with (first | (go_at_call 8; with_reducible refine Calls.mono (known_any _) ?_; rintro e wk ⟨rfl, hbk⟩))
      go_ret
      exact ⟨rfl, hbk⟩

set_option maxRecDepth 20000 in
set_option maxHeartbeats 2000000 in
theorem carries_lo (k n : Nat) (w : World) (hk : k ≤ 255) (hmin : n % 256 ≤ 255 - k) :
    Calls Try.prog 7 #[.int .i64 k, .int .i64 n] w fun e w' => e = .returned (.bool true) ∧ Below w.heap.size w w' := by
  have g1 : decide ((k : Int) < 0) = false := by simp
  have g2 : decide ((255 : Int) < (k : Int)) = false := by simp; omega
  have g3 : decide ((n : Int) < 0) = false := by simp
  obtain ⟨m, hm⟩ : ∃ m, m = n % 256 := ⟨_, rfl⟩
  have em : (n : Int) % 256 = (m : Int) := by omega
  have hm2 : k + m ≤ 255 := by omega
  have g5 : (m : Int) ≤ 255 - (k : Int) := by omega
  clear hm hmin
  go_enter Try.func7, Try.ntmps7
  go_wp2_with (first | (go_at_call 8; with_reducible refine Calls.mono (known_any _) ?_; rintro e wk ⟨rfl, hbk⟩))
  change Code.wp _ _ _ _ (wk.alloc (.cells (v8 zero32) 23))
  have b0 : Below w.heap.size w (wk.alloc (.cells (v8 zero32) 23)) := hbk.alloc hbk.size _
  have ra := Row.new wk 23 (v8 zero32)
  obtain ⟨ga, hga⟩ : ∃ ga, ga = wk.heap.size := ⟨_, rfl⟩
  have hgw : w.heap.size ≤ ga := by rw [hga]; exact hbk.size
  rw [← hga] at ra ⊢
  generalize wk.alloc (.cells (v8 zero32) 23) = w0 at ra b0 ⊢
  clear hga hbk
  go_loopw [6] (fun i wr => ∃ (j : Nat) (l : List Int), k ≤ j ∧ j ≤ k + m ∧ i = .int .i64 j ∧ Id32 l ∧ num l = 2 ^ j - 2 ^ k ∧ Row wr ga 23 (v8 l) ∧ Below w.heap.size w wr) (fun i _ => k + m - (intOf i).toNat)
  case atStart => exact ⟨k, zero32, Nat.le_refl _, by omega, rfl, id_zero, by rw [show num zero32 = 0 by decide]; omega, ra, b0⟩
  case round =>
    obtain ⟨j, l, hj0, hj1, rfl, hl, hnum, r, hb⟩ := hrel
    clear ra b0
    by_cases hlt : j < k + m
    · have g4 : decide ((j : Int) < (k : Int) + (m : Int)) = true := by simp; omega
      obtain ⟨p, hp⟩ : ∃ p, p = 31 - j / 8 := ⟨_, rfl⟩
      have ep : (31 : Int) - (j : Int) / 8 = (p : Int) := by omega
      have hp32 : p < 32 := by omega
      have hpk : (0 : Int) < 2 ^ k := Int.pow_pos (by decide)
      have hbl := byte_lt hl (j := j) (by omega) (by rw [hnum]; omega)
      have hsb := set_bit hl (j := j) (by omega) (2 ^ (j % 8))
      rw [← two_pow, hnum] at hsb
      rw [← hp] at hbl hsb
      have gp := hl.2.gi p
      have hlo := low_pow j
      have hor : bits .or .u8 (gi l p) (2 ^ (j % 8)) = gi l p + 2 ^ (j % 8) := by
        have := or_bit (gi l p).toNat (by omega) (j % 8) (by omega) (by
          have e : (((2 ^ (j % 8) : Nat)) : Int) = 2 ^ (j % 8) := by exact_mod_cast rfl
          omega)
        rwa [Int.toNat_of_nonneg gp.1] at this
      have hs : (2 : Int) ^ (j % 8) % 256 = 2 ^ (j % 8) := by omega
      have hsum : gi l p + 2 ^ (j % 8) < 256 := by
        obtain h | h | h | h | h | h | h | h : j % 8 = 0 ∨ j % 8 = 1 ∨ j % 8 = 2 ∨ j % 8 = 3 ∨ j % 8 = 4 ∨ j % 8 = 5 ∨ j % 8 = 6 ∨ j % 8 = 7 := by omega
        all_goals rw [h] at hbl ⊢; omega
      have hsb : Hid _ := show num (l.set p (gi l p + 2 ^ (j % 8))) = 2 ^ (j + 1) - 2 ^ k by rw [hsb, Int.pow_succ]; omega
      have hv : wr.cell? ⟨ga, p, none⟩ = some (.int .u8 (gi l p)) := r.cell8 (by rw [hl.1]; exact hp32)
      have hf : wr.frozen? ⟨ga, p, none⟩ = false := r.frozen
      clear hp hnum hbl
      go_wp2
      refine wp_region_quiet_tail 9 (by kernel_rfl) (by kernel_rfl) ?_
      simp only [List.take_succ_cons, List.take_zero, List.drop_succ_cons, List.drop_zero]
      repeat (go_big_quiet_step (fail))
      refine wpQuiet_nil ?_
      rintro _ ⟨nq, rfl⟩
      have hb1 := below_drewN hb nq
      have r1 := r.drewN nq
      generalize wr.drewN nq = w1 at hb1 r1 ⊢
      have hv1 : w1.cell? ⟨ga, p, none⟩ = some (.int .u8 (gi l p)) := r1.cell8 (by rw [hl.1]; exact hp32)
      have hf1 : w1.frozen? ⟨ga, p, none⟩ = false := r1.frozen
      clear hv hf r hb
      go_wp2
      go_roundw
      case rel => exact ⟨j + 1, l.set p (gi l p + 2 ^ (j % 8)), by omega, by omega, by go_num, hl.set _ (by omega), hsb.out, r1.set8 p _, hb1.setCell hgw _⟩
      case measure => simp [intOf]; omega
    · obtain rfl : j = k + m := by omega
      have g4 : decide (((k + m : Nat) : Int) < (k : Int) + (m : Int)) = false := by simp
      have g6 : decide ((k : Int) + (m : Int) < 256) = true := by simp; omega
      have sl := sz23 hl
      have hX := id_add l k
      have sX := sz23 hX
      have zX := zsize' hX
      have hc := add_any l k wr hl (by omega)
      obtain ⟨p, hp⟩ : ∃ p, p = 31 - (k + m) / 8 := ⟨_, rfl⟩
      have ep : (31 : Int) - ((k : Int) + (m : Int)) / 8 = (p : Int) := by omega
      have hp32 : p < 32 := by omega
      obtain ⟨rr, hr⟩ : ∃ rr, rr = (k + m) % 8 := ⟨_, rfl⟩
      have hlo := low_pow (k + m)
      rw [← hr] at hlo
      have hwt := set_bit id_zero (j := k + m) (by omega) (2 ^ ((k + m) % 8))
      rw [← two_pow, ← hp, show num zero32 = 0 by decide, Int.zero_add, gi_zero p hp32, Int.zero_add] at hwt
      rw [← hr] at hwt
      have hT : Id32 (zero32.set p (2 ^ rr)) := id_zero.set _ (by omega)
      have er : ((k : Int) + (m : Int)) % 8 = (rr : Int) := by omega
      have hs : (2 : Int) ^ rr % 256 = 2 ^ rr := by omega
      clear hp hr hlt hj0 hj1
      go_upto_region 13 with (first | (refine load_rowW ?hw 23 (.tmp 5) (by rfl) ga (by rfl) 23 (v8 l) (0, 0) _ r Try.underlying23 rfl sl ?_; (case hw => rfl)) | (go_at_call 16; with_reducible refine Calls.mono (hc) ?_; rintro e wx ⟨rfl, hb_wx⟩) | (refine store_row0 23 (.tmp 7) (.tmp 49) (by rfl) (by rfl) (by rfl) wx.heap.size (v8 (addL l k)) (by rfl) (by rfl) 23 _ (Row.new wx 23 (v8 zero32)) sX zX (v8_one _) ?_))
      have heq : addL l k = zero32.set p (2 ^ rr) := by
        rw [← hX.inj hT, num_add, hnum, hwt, Int.sub_add_cancel]
        have h1 : (0 : Int) < 2 ^ (k + m) := Int.pow_pos (by decide)
        have h2 : (2 : Int) ^ (k + m) < 256 ^ 32 := by
          have h3 : (256 : Int) ^ 32 = 2 ^ 256 := by decide +kernel
          have h4 : 2 ^ (k + m) < 2 ^ 256 := Nat.pow_lt_pow_right (by decide) (by omega)
          rw [h3]; exact_mod_cast h4
        exact Int.emod_eq_of_lt (by omega) h2
      change Code.wp _ _ _ _ (((wx.alloc (.cells (v8 zero32) 23)).setRow wx.heap.size (v8 (addL l k))).alloc (.cells (v8 zero32) 23))
      have b3 : Below w.heap.size w wx := hb.trans (hb_wx.mono hb.size)
      have rX := ((Row.new wx 23 (v8 zero32)).setRow (v8 (addL l k))).alloc (.cells (v8 zero32) 23)
      have rT : Row (((wx.alloc (.cells (v8 zero32) 23)).setRow wx.heap.size (v8 (addL l k))).alloc (.cells (v8 zero32) 23)) (wx.heap.size + 1) 23 (v8 zero32) := Row.newAt _ _ _ _ (by rw [setRow_size]; simp)
      have b4 : Below w.heap.size w (((wx.alloc (.cells (v8 zero32) 23)).setRow wx.heap.size (v8 (addL l k))).alloc (.cells (v8 zero32) 23)) := (below_setRow (b3.alloc b3.size _) b3.size _).alloc (by rw [setRow_size]; have := b3.size; simp; omega) _
      have hgx := b3.size
      generalize ((wx.alloc (.cells (v8 zero32) 23)).setRow wx.heap.size (v8 (addL l k))).alloc (.cells (v8 zero32) 23) = w4 at rX rT b4 ⊢
      generalize wx.heap.size = gx at rX rT hgx ⊢
      have hv : w4.cell? ⟨gx + 1, p, none⟩ = some (.int .u8 (gi zero32 p)) := rT.cell8 (by rw [id_zero.1]; exact hp32)
      have hf : w4.frozen? ⟨gx + 1, p, none⟩ = false := rT.frozen
      have rX1 := rX.setOther (a := ⟨gx + 1, p, none⟩) (by simp) (.int .u8 (2 ^ rr))
      have rT1 := rT.set8 p (2 ^ rr)
      rw [← heq] at rT1
      have b5 : Below w.heap.size w (w4.setCell ⟨gx + 1, p, none⟩ (.int .u8 (2 ^ rr))) := b4.setCell (by show _ ≤ gx + 1; omega) _
      have qe := eql23 hX hX
      simp only [decide_true] at qe
      clear hc heq hT b3 r hb hb_wx hnum hwt
      go_wp2_with (first | (refine load_rowW ?hw 23 (.tmp 7) (by rfl) gx (by rfl) 23 (v8 (addL l k)) (0, 0) _ rX1 Try.underlying23 rfl sX ?_; (case hw => rfl)) | (refine load_rowW ?hw 23 (.tmp 9) (by rfl) (gx + 1) (by rfl) 23 (v8 (addL l k)) (0, 0) _ rT1 Try.underlying23 rfl sX ?_; (case hw => rfl)))
      go_ret
      exact ⟨rfl, b5⟩
set_option maxRecDepth 20000 in
set_option maxHeartbeats 2000000 in
theorem carries_hi (k n : Nat) (w : World) (hk : k ≤ 255) (hmin : 255 - k < n % 256) :
    Calls Try.prog 7 #[.int .i64 k, .int .i64 n] w fun e w' => e = .returned (.bool true) ∧ Below w.heap.size w w' := by
  have g1 : decide ((k : Int) < 0) = false := by simp
  have g2 : decide ((255 : Int) < (k : Int)) = false := by simp; omega
  have g3 : decide ((n : Int) < 0) = false := by simp
  obtain ⟨m, hm⟩ : ∃ m, m = 255 - k := ⟨_, rfl⟩
  have em : (255 : Int) - (k : Int) = (m : Int) := by omega
  have hm2 : k + m ≤ 255 := by omega
  have g5 : (m : Int) < (n : Int) % 256 := by omega
  clear hm hmin
  go_enter Try.func7, Try.ntmps7
  go_wp2_with (first | (go_at_call 8; with_reducible refine Calls.mono (known_any _) ?_; rintro e wk ⟨rfl, hbk⟩))
  change Code.wp _ _ _ _ (wk.alloc (.cells (v8 zero32) 23))
  have b0 : Below w.heap.size w (wk.alloc (.cells (v8 zero32) 23)) := hbk.alloc hbk.size _
  have ra := Row.new wk 23 (v8 zero32)
  obtain ⟨ga, hga⟩ : ∃ ga, ga = wk.heap.size := ⟨_, rfl⟩
  have hgw : w.heap.size ≤ ga := by rw [hga]; exact hbk.size
  rw [← hga] at ra ⊢
  generalize wk.alloc (.cells (v8 zero32) 23) = w0 at ra b0 ⊢
  clear hga hbk
  go_loopw [6] (fun i wr => ∃ (j : Nat) (l : List Int), k ≤ j ∧ j ≤ k + m ∧ i = .int .i64 j ∧ Id32 l ∧ num l = 2 ^ j - 2 ^ k ∧ Row wr ga 23 (v8 l) ∧ Below w.heap.size w wr) (fun i _ => k + m - (intOf i).toNat)
  case atStart => exact ⟨k, zero32, Nat.le_refl _, by omega, rfl, id_zero, by rw [show num zero32 = 0 by decide]; omega, ra, b0⟩
  case round =>
    obtain ⟨j, l, hj0, hj1, rfl, hl, hnum, r, hb⟩ := hrel
    clear ra b0
    by_cases hlt : j < k + m
    · have g4 : decide ((j : Int) < (k : Int) + (m : Int)) = true := by simp; omega
      obtain ⟨p, hp⟩ : ∃ p, p = 31 - j / 8 := ⟨_, rfl⟩
      have ep : (31 : Int) - (j : Int) / 8 = (p : Int) := by omega
      have hp32 : p < 32 := by omega
      have hpk : (0 : Int) < 2 ^ k := Int.pow_pos (by decide)
      have hbl := byte_lt hl (j := j) (by omega) (by rw [hnum]; omega)
      have hsb := set_bit hl (j := j) (by omega) (2 ^ (j % 8))
      rw [← two_pow, hnum] at hsb
      rw [← hp] at hbl hsb
      have gp := hl.2.gi p
      have hlo := low_pow j
      have hor : bits .or .u8 (gi l p) (2 ^ (j % 8)) = gi l p + 2 ^ (j % 8) := by
        have := or_bit (gi l p).toNat (by omega) (j % 8) (by omega) (by
          have e : (((2 ^ (j % 8) : Nat)) : Int) = 2 ^ (j % 8) := by exact_mod_cast rfl
          omega)
        rwa [Int.toNat_of_nonneg gp.1] at this
      have hs : (2 : Int) ^ (j % 8) % 256 = 2 ^ (j % 8) := by omega
      have hsum : gi l p + 2 ^ (j % 8) < 256 := by
        obtain h | h | h | h | h | h | h | h : j % 8 = 0 ∨ j % 8 = 1 ∨ j % 8 = 2 ∨ j % 8 = 3 ∨ j % 8 = 4 ∨ j % 8 = 5 ∨ j % 8 = 6 ∨ j % 8 = 7 := by omega
        all_goals rw [h] at hbl ⊢; omega
      have hsb : Hid _ := show num (l.set p (gi l p + 2 ^ (j % 8))) = 2 ^ (j + 1) - 2 ^ k by rw [hsb, Int.pow_succ]; omega
      have hv : wr.cell? ⟨ga, p, none⟩ = some (.int .u8 (gi l p)) := r.cell8 (by rw [hl.1]; exact hp32)
      have hf : wr.frozen? ⟨ga, p, none⟩ = false := r.frozen
      clear hp hnum hbl
      go_wp2
      refine wp_region_quiet_tail 9 (by kernel_rfl) (by kernel_rfl) ?_
      simp only [List.take_succ_cons, List.take_zero, List.drop_succ_cons, List.drop_zero]
      repeat (go_big_quiet_step (fail))
      refine wpQuiet_nil ?_
      rintro _ ⟨nq, rfl⟩
      have hb1 := below_drewN hb nq
      have r1 := r.drewN nq
      generalize wr.drewN nq = w1 at hb1 r1 ⊢
      have hv1 : w1.cell? ⟨ga, p, none⟩ = some (.int .u8 (gi l p)) := r1.cell8 (by rw [hl.1]; exact hp32)
      have hf1 : w1.frozen? ⟨ga, p, none⟩ = false := r1.frozen
      clear hv hf r hb
      go_wp2
      go_roundw
      case rel => exact ⟨j + 1, l.set p (gi l p + 2 ^ (j % 8)), by omega, by omega, by go_num, hl.set _ (by omega), hsb.out, r1.set8 p _, hb1.setCell hgw _⟩
      case measure => simp [intOf]; omega
    · obtain rfl : j = k + m := by omega
      have g4 : decide (((k + m : Nat) : Int) < (k : Int) + (m : Int)) = false := by simp
      have g6 : decide ((k : Int) + (m : Int) < 256) = true := by simp; omega
      have sl := sz23 hl
      have hX := id_add l k
      have sX := sz23 hX
      have zX := zsize' hX
      have hc := add_any l k wr hl (by omega)
      obtain ⟨p, hp⟩ : ∃ p, p = 31 - (k + m) / 8 := ⟨_, rfl⟩
      have ep : (31 : Int) - ((k : Int) + (m : Int)) / 8 = (p : Int) := by omega
      have hp32 : p < 32 := by omega
      obtain ⟨rr, hr⟩ : ∃ rr, rr = (k + m) % 8 := ⟨_, rfl⟩
      have hlo := low_pow (k + m)
      rw [← hr] at hlo
      have hwt := set_bit id_zero (j := k + m) (by omega) (2 ^ ((k + m) % 8))
      rw [← two_pow, ← hp, show num zero32 = 0 by decide, Int.zero_add, gi_zero p hp32, Int.zero_add] at hwt
      rw [← hr] at hwt
      have hT : Id32 (zero32.set p (2 ^ rr)) := id_zero.set _ (by omega)
      have er : ((k : Int) + (m : Int)) % 8 = (rr : Int) := by omega
      have hs : (2 : Int) ^ rr % 256 = 2 ^ rr := by omega
      clear hp hr hlt hj0 hj1
      go_upto_region 13 with (first | (refine load_rowW ?hw 23 (.tmp 5) (by rfl) ga (by rfl) 23 (v8 l) (0, 0) _ r Try.underlying23 rfl sl ?_; (case hw => rfl)) | (go_at_call 16; with_reducible refine Calls.mono (hc) ?_; rintro e wx ⟨rfl, hb_wx⟩) | (refine store_row0 23 (.tmp 7) (.tmp 49) (by rfl) (by rfl) (by rfl) wx.heap.size (v8 (addL l k)) (by rfl) (by rfl) 23 _ (Row.new wx 23 (v8 zero32)) sX zX (v8_one _) ?_))
      have heq : addL l k = zero32.set p (2 ^ rr) := by
        rw [← hX.inj hT, num_add, hnum, hwt, Int.sub_add_cancel]
        have h1 : (0 : Int) < 2 ^ (k + m) := Int.pow_pos (by decide)
        have h2 : (2 : Int) ^ (k + m) < 256 ^ 32 := by
          have h3 : (256 : Int) ^ 32 = 2 ^ 256 := by decide +kernel
          have h4 : 2 ^ (k + m) < 2 ^ 256 := Nat.pow_lt_pow_right (by decide) (by omega)
          rw [h3]; exact_mod_cast h4
        exact Int.emod_eq_of_lt (by omega) h2
      change Code.wp _ _ _ _ (((wx.alloc (.cells (v8 zero32) 23)).setRow wx.heap.size (v8 (addL l k))).alloc (.cells (v8 zero32) 23))
      have b3 : Below w.heap.size w wx := hb.trans (hb_wx.mono hb.size)
      have rX := ((Row.new wx 23 (v8 zero32)).setRow (v8 (addL l k))).alloc (.cells (v8 zero32) 23)
      have rT : Row (((wx.alloc (.cells (v8 zero32) 23)).setRow wx.heap.size (v8 (addL l k))).alloc (.cells (v8 zero32) 23)) (wx.heap.size + 1) 23 (v8 zero32) := Row.newAt _ _ _ _ (by rw [setRow_size]; simp)
      have b4 : Below w.heap.size w (((wx.alloc (.cells (v8 zero32) 23)).setRow wx.heap.size (v8 (addL l k))).alloc (.cells (v8 zero32) 23)) := (below_setRow (b3.alloc b3.size _) b3.size _).alloc (by rw [setRow_size]; have := b3.size; simp; omega) _
      have hgx := b3.size
      generalize ((wx.alloc (.cells (v8 zero32) 23)).setRow wx.heap.size (v8 (addL l k))).alloc (.cells (v8 zero32) 23) = w4 at rX rT b4 ⊢
      generalize wx.heap.size = gx at rX rT hgx ⊢
      have hv : w4.cell? ⟨gx + 1, p, none⟩ = some (.int .u8 (gi zero32 p)) := rT.cell8 (by rw [id_zero.1]; exact hp32)
      have hf : w4.frozen? ⟨gx + 1, p, none⟩ = false := rT.frozen
      have rX1 := rX.setOther (a := ⟨gx + 1, p, none⟩) (by simp) (.int .u8 (2 ^ rr))
      have rT1 := rT.set8 p (2 ^ rr)
      rw [← heq] at rT1
      have b5 : Below w.heap.size w (w4.setCell ⟨gx + 1, p, none⟩ (.int .u8 (2 ^ rr))) := b4.setCell (by show _ ≤ gx + 1; omega) _
      have qe := eql23 hX hX
      simp only [decide_true] at qe
      clear hc heq hT b3 r hb hb_wx hnum hwt
      go_wp2_with (first | (refine load_rowW ?hw 23 (.tmp 7) (by rfl) gx (by rfl) 23 (v8 (addL l k)) (0, 0) _ rX1 Try.underlying23 rfl sX ?_; (case hw => rfl)) | (refine load_rowW ?hw 23 (.tmp 9) (by rfl) (gx + 1) (by rfl) 23 (v8 (addL l k)) (0, 0) _ rT1 Try.underlying23 rfl sX ?_; (case hw => rfl)))
      go_ret
      exact ⟨rfl, b5⟩
end Go.Proofs.Ytkmhnpkkkhglpaa
