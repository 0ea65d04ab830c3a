/- IdentAdds returns true and turns no old memory, for any id and any number. -/
import Derived.Test.YtkmhnpkkkhglpaaAdd
import Derived.Test.YtkmhnpkkkhglpaaKnown
import Derived.Deep.CutRange
namespace Go.Proofs.Ytkmhnpkkkhglpaa
open Go.RowKit

def sumN (a : List Int) : Nat → List Int
  | 0 => a
  | k + 1 => addL (sumN a k) k
theorem id_sumN {a : List Int} (ha : Id32 a) : ∀ k, Id32 (sumN a k)
  | 0 => ha
  | _ + 1 => id_add _ _
theorem num_sumN {a : List Int} (ha : Id32 a) : ∀ k, num (sumN a k) = (num a + 2 ^ k - 1) % 256 ^ 32
  | 0 => by
    have := ha.bound
    rw [sumN, show num a + 2 ^ 0 - 1 = num a by omega, Int.emod_eq_of_lt this.1 this.2]
  | k + 1 => by
    rw [sumN, num_add, num_sumN ha k, Int.emod_add_emod]
    congr 1
    rw [Int.pow_succ]; omega
theorem sum_back {a : List Int} (ha : Id32 a) : addL (sumN a 256) 0 = a := by
  rw [← (id_add _ _).inj ha, num_add, num_sumN ha, Int.emod_add_emod]
  have := ha.bound
  have e : num a + 2 ^ 256 - 1 + 2 ^ 0 = num a + 256 ^ 32 := by
    have h1 : (2 : Int) ^ 256 = 256 ^ 32 := by decide +kernel
    rw [h1]; omega
  rw [e, Int.add_emod_right, Int.emod_eq_of_lt this.1 this.2]
theorem adds_laws {a : List Int} (ha : Id32 a) {k : Nat} (hk : k ≤ 254) : addL (addL a k) k = addL a (k + 1) ∧ btw a (addL a k) (addL a (k + 1)) = true ∧ addL a k ≠ a := by
  have hb := ha.bound
  have h1 : (1 : Int) ≤ 2 ^ k := Int.pow_pos (by decide)
  have h2 : (2 : Int) ^ (k + 1) = 2 * 2 ^ k := by rw [Int.pow_succ, Int.mul_comm]
  have h3 : (2 : Int) ^ (k + 1) ≤ 2 ^ 255 := by
    have h : 2 ^ (k + 1) ≤ 2 ^ 255 := Nat.pow_le_pow_right (by decide) (by omega)
    exact_mod_cast h
  have h4 : (2 : Int) * 2 ^ 255 = 256 ^ 32 := by decide +kernel
  have ny := num_add a k
  have nz := num_add a (k + 1)
  have nw := num_add (addL a k) k
  have hy := id_add a k
  have hz := id_add a (k + 1)
  have hw := id_add (addL a k) k
  rw [h2] at nz h3
  rw [ny] at nw
  have M : (256 : Int) ^ 32 = 115792089237316195423570985008687907853269984665640564039457584007913129639936 := by decide +kernel
  rw [M] at ny nz nw hb h4
  generalize (2 : Int) ^ k = P at *
  generalize (2 : Int) ^ 255 = H at *
  have e1 : addL (addL a k) k = addL a (k + 1) := by
    rw [← hw.inj hz, nw, nz]; omega
  have e2 : addL a k ≠ a := fun h => by
    have : num (addL a k) = num a := by rw [h]
    omega
  have e3 : a ≠ addL a (k + 1) := fun h => by
    have : num a = num (addL a (k + 1)) := by rw [← h]
    omega
  refine ⟨e1, ?_, e2⟩
  unfold btw
  rw [if_neg e3]
  split
  · have t1 : num a < num (addL a k) := by omega
    have t2 : num (addL a k) < num (addL a (k + 1)) := by omega
    simp only [Bool.and_eq_true, decide_eq_true_eq]
    exact ⟨t1, t2⟩
  · by_cases h : num a < num (addL a k)
    · simp [h]
    · have : num (addL a k) < num (addL a (k + 1)) := by omega
      simp [this]

theorem zsize {l : List Int} (hl : Id32 l) : (v8 zero32).size = (v8 l).size := by rw [v8_size, v8_size, hl.1, id_zero.1]
theorem lsize {l m : List Int} (hl : Id32 l) (hm : Id32 m) : (v8 l).size = (v8 m).size := by rw [v8_size, v8_size, hl.1, hm.1]

set_option maxRecDepth 20000 in
set_option maxHeartbeats 2000000 in
theorem adds_any (a : List Int) (k : Int) (w : World) (ha : Id32 a) :
    Calls Try.prog 5 #[.agg (v8 a), .int .i64 k] w fun e w' => e = .returned (.bool true) ∧ Below w.heap.size w w' := by
  have sa := sz23 ha
  have za := zsize ha
  have b0 : Below w.heap.size w (w.alloc (.cells (v8 a) 23)) := (Below.refl _ _).alloc (Nat.le_refl _) _
  have ra := Row.new w 23 (v8 a)
  go_enter Try.func5, Try.ntmps5
  go_wp2_with (first | (go_at_call 8; with_reducible refine Calls.mono (known_any _) ?_; rintro e wk ⟨rfl, hbk⟩) | (refine load_rowW ?hw 23 (.tmp 2) (by rfl) w.heap.size (by rfl) 23 (v8 a) (0, 0) _ (ra.below hbk ra.lt) Try.underlying23 rfl sa ?_; (case hw => rfl)) | (refine store_row0 23 (.tmp 5) (.tmp 18) (by rfl) (by rfl) (by rfl) wk.heap.size (v8 a) (by rfl) (by rfl) 23 _ (Row.new wk 23 (v8 zero32)) sa za (v8_one _) ?_))
  have b1 : Below w.heap.size w wk := b0.trans (hbk.mono b0.size)
  have hwk := b1.size
  have ra1 := ((ra.below hbk ra.lt).alloc (.cells (v8 zero32) 23)).setRowOther (g := wk.heap.size) (by have := (ra.below hbk ra.lt).lt; omega) (v8 a)
  have rx1 := (Row.new wk 23 (v8 zero32)).setRow (v8 a)
  have b2 : Below w.heap.size w ((wk.alloc (.cells (v8 zero32) 23)).setRow wk.heap.size (v8 a)) := below_setRow (b1.alloc hwk _) hwk _
  change Code.wp _ _ _ _ ((wk.alloc (.cells (v8 zero32) 23)).setRow wk.heap.size (v8 a))
  obtain ⟨gx, hgx⟩ : ∃ gx, gx = wk.heap.size := ⟨_, rfl⟩
  have hga : w.heap.size < gx := by have := (ra.below hbk ra.lt).lt; omega
  rw [← hgx] at ra1 rx1 b2 ⊢
  generalize (wk.alloc (.cells (v8 zero32) 23)).setRow gx (v8 a) = w2 at ra1 rx1 b2 ⊢
  clear hgx hwk b1 hbk b0 ra za
  go_loopw [6] (fun i wr => ∃ m : Nat, m ≤ 256 ∧ i = .int .i64 m ∧ Row wr w.heap.size 23 (v8 a) ∧ Row wr gx 23 (v8 (sumN a m)) ∧ Below w.heap.size w wr) (fun i _ => 256 - (intOf i).toNat)
  case atStart => exact ⟨0, by omega, rfl, ra1, rx1, b2⟩
  case round =>
    obtain ⟨m, hm, rfl, r1, r2, hb⟩ := hrel
    clear ra1 rx1 b2
    have hx := id_sumN ha m
    have sx := sz23 hx
    by_cases hlt : m < 256
    · have hy := id_add (sumN a m) m
      have sy := sz23 hy
      have zy := zsize hy
      have xy := lsize hx hy
      have hc := add_any (sumN a m) m wr hx hlt
      have h256 : decide ((m : Int) < 256) = true := by simp; omega
      go_wp2_with (first | (refine load_rowW ?hw 23 (.tmp 5) (by rfl) gx (by rfl) 23 (v8 (sumN a m)) (0, 0) _ r2 Try.underlying23 rfl sx ?_; (case hw => rfl)) | (go_at_call 16; with_reducible refine Calls.mono (hc) ?_; rintro e wy ⟨rfl, hb_wy⟩) | (refine store_row0 23 (.tmp 7) (.tmp 27) (by rfl) (by rfl) (by rfl) wy.heap.size (v8 (addL (sumN a m) m)) (by rfl) (by rfl) 23 _ (Row.new wy 23 (v8 zero32)) sy zy (v8_one _) ?_) | (refine load_rowW ?hw 23 (.tmp 7) (by rfl) wy.heap.size (by rfl) 23 (v8 (addL (sumN a m) m)) (0, 0) _ ((Row.new wy 23 (v8 zero32)).setRow _) Try.underlying23 rfl sy ?_; (case hw => rfl)) | (refine store_row0 23 (.tmp 5) (.tmp 31) (by rfl) (by rfl) (by rfl) gx (v8 (addL (sumN a m) m)) (by rfl) (by rfl) 23 _ (((r2.below hb_wy r2.lt).alloc (.cells (v8 zero32) 23)).setRowOther (g := wy.heap.size) (by have := (r2.below hb_wy r2.lt).lt; omega) (v8 (addL (sumN a m) m))) sy xy (v8_one _) ?_))
      go_roundw
      case rel =>
        have b3 : Below w.heap.size w wy := hb.trans (hb_wy.mono hb.size)
        have l1 := (r1.below hb_wy r1.lt).lt
        have l2 := (r2.below hb_wy r2.lt).lt
        exact ⟨m + 1, by omega, by go_num,
          (((r1.below hb_wy r1.lt).alloc _).setRowOther (g := wy.heap.size) (by omega) _).setRowOther (g := gx) (by omega) _,
          (((r2.below hb_wy r2.lt).alloc (.cells (v8 zero32) 23)).setRowOther (g := wy.heap.size) (by omega) (v8 (addL (sumN a m) m))).setRow _,
          below_setRow (below_setRow (b3.alloc b3.size _) b3.size _) (by omega) _⟩
      case measure => simp [intOf]; omega
    · obtain rfl : m = 256 := by omega
      have hc := add_any (sumN a 256) 0 wr hx (by omega)
      rw [sum_back ha] at hc
      have xa := lsize hx ha
      have qe := eql23 ha ha
      have qn := neq23 ha ha
      simp only [decide_true, Bool.not_true] at qe qn
      clear hlt hm
      go_upto_region 12 with (first | (refine load_rowW ?hw 23 (.tmp 5) (by rfl) gx (by rfl) 23 (v8 (sumN a 256)) (0, 0) _ r2 Try.underlying23 rfl sx ?_; (case hw => rfl)) | (go_at_call 16; with_reducible refine Calls.mono (hc) ?_; rintro e wz ⟨rfl, hb_wz⟩) | (refine store_row0 23 (.tmp 5) (.tmp 35) (by rfl) (by rfl) (by rfl) gx (v8 a) (by rfl) (by rfl) 23 _ (r2.below hb_wz r2.lt) sa xa (v8_one _) ?_))
      have ra1 := (r1.below hb_wz r1.lt).setRowOther (g := gx) (by omega) (v8 a)
      have rx1 := (r2.below hb_wz r2.lt).setRow (v8 a)
      have b3 : Below w.heap.size w (wz.setRow gx (v8 a)) := below_setRow (hb.trans (hb_wz.mono hb.size)) (by omega) _
      generalize wz.setRow gx (v8 a) = w3 at ra1 rx1 b3 ⊢
      clear r1 r2 hb_wz hb hc sx hx xa
      by_cases hk0 : k < 0
      · have g1 : decide (k < 0) = true := by simpa using hk0
        go_wp2_with (first | (refine load_rowW ?hw 23 (.tmp 5) (by rfl) gx (by rfl) 23 (v8 a) (0, 0) _ rx1 Try.underlying23 rfl sa ?_; (case hw => rfl)) | (refine load_rowW ?hw 23 (.tmp 2) (by rfl) w.heap.size (by rfl) 23 (v8 a) (0, 0) _ ra1 Try.underlying23 rfl sa ?_; (case hw => rfl)))
        go_ret
        exact ⟨rfl, b3⟩
      · have g1 : decide (k < 0) = false := by simpa using hk0
        by_cases hk1 : 254 < k
        · have g2 : decide (254 < k) = true := by simpa using hk1
          go_wp2_with (first | (refine load_rowW ?hw 23 (.tmp 5) (by rfl) gx (by rfl) 23 (v8 a) (0, 0) _ rx1 Try.underlying23 rfl sa ?_; (case hw => rfl)) | (refine load_rowW ?hw 23 (.tmp 2) (by rfl) w.heap.size (by rfl) 23 (v8 a) (0, 0) _ ra1 Try.underlying23 rfl sa ?_; (case hw => rfl)))
          go_ret
          exact ⟨rfl, b3⟩
        · have g2 : decide (254 < k) = false := by simpa using hk1
          obtain ⟨j, rfl⟩ : ∃ j : Nat, k = j := ⟨k.toNat, by omega⟩
          have hj : j ≤ 254 := by omega
          obtain ⟨e1, e2, e3⟩ := adds_laws ha hj
          have hy := id_add a j
          have hz := id_add a (j + 1)
          have sy := sz23 hy
          have sz := sz23 hz
          have zy := zsize hy
          have zz := zsize hz
          have c1 := add_any a j w3 ha (by omega)
          have c2 : ∀ wx, Calls Try.prog 16 #[.agg (v8 a), .int .i64 ((j : Int) + 1)] wx fun e w' => e = .returned (.tuple #[.agg (v8 (addL a (j + 1))), .int .i64 0]) ∧ Below wx.heap.size wx w' := fun wx => add_any a (j + 1) wx ha (by omega)
          have c3 := fun wx => add_any (addL a j) j wx hy (by omega)
          rw [e1] at c3
          have c4 := fun wx => between_any a (addL a j) (addL a (j + 1)) wx ha hy hz
          rw [e2] at c4
          have qz := eql23 hz hz
          simp only [decide_true] at qz
          have qy := neq23 hy ha
          rw [show decide (addL a j = a) = false by simpa using e3] at qy
          generalize addL a j = Y at *
          generalize addL a (j + 1) = Z at *
          clear e1 e2 e3
          go_upto_region 15 with (first | (refine load_rowW ?hw 23 (.tmp 5) (by rfl) gx (by rfl) 23 (v8 a) (0, 0) _ rx1 Try.underlying23 rfl sa ?_; (case hw => rfl)) | (refine load_rowW ?hw 23 (.tmp 2) (by rfl) w.heap.size (by rfl) 23 (v8 a) (0, 0) _ ra1 Try.underlying23 rfl sa ?_; (case hw => rfl)) | (go_at_call 16; with_reducible refine Calls.mono (c1) ?_; rintro e wy ⟨rfl, hb_wy⟩) | (refine store_row0 23 (.tmp 10) (.tmp 63) (by rfl) (by rfl) (by rfl) wy.heap.size (v8 Y) (by rfl) (by rfl) 23 _ (Row.new wy 23 (v8 zero32)) sy zy (v8_one _) ?_))
          change Code.wp _ _ _ _ ((wy.alloc (.cells (v8 zero32) 23)).setRow wy.heap.size (v8 Y))
          have b4 : Below w.heap.size w wy := b3.trans (hb_wy.mono b3.size)
          have l1 := (ra1.below hb_wy ra1.lt).lt
          have ra2 := ((ra1.below hb_wy ra1.lt).alloc (.cells (v8 zero32) 23)).setRowOther (g := wy.heap.size) (by omega) (v8 Y)
          have ry2 := (Row.new wy 23 (v8 zero32)).setRow (v8 Y)
          have b5 : Below w.heap.size w ((wy.alloc (.cells (v8 zero32) 23)).setRow wy.heap.size (v8 Y)) := below_setRow (b4.alloc b4.size _) b4.size _
          obtain ⟨gy, hgy⟩ : ∃ gy, gy = wy.heap.size := ⟨_, rfl⟩
          rw [← hgy] at ra2 ry2 b5 l1 ⊢
          generalize (wy.alloc (.cells (v8 zero32) 23)).setRow gy (v8 Y) = w5 at ra2 ry2 b5 ⊢
          clear hgy b4 hb_wy ra1 rx1 b3 c1 zy
          go_upto_region 16 with (first | (refine load_rowW ?hw 23 (.tmp 2) (by rfl) w.heap.size (by rfl) 23 (v8 a) (0, 0) _ ra2 Try.underlying23 rfl sa ?_; (case hw => rfl)) | (go_at_call 16; with_reducible refine Calls.mono (c2 _) ?_; rintro e wv ⟨rfl, hb_wv⟩) | (refine store_row0 23 (.tmp 12) (.tmp 70) (by rfl) (by rfl) (by rfl) wv.heap.size (v8 Z) (by rfl) (by rfl) 23 _ (Row.new wv 23 (v8 zero32)) sz zz (v8_one _) ?_))
          change Code.wp _ _ _ _ ((wv.alloc (.cells (v8 zero32) 23)).setRow wv.heap.size (v8 Z))
          have b6 : Below w.heap.size w wv := b5.trans (hb_wv.mono b5.size)
          have l2 := (ra2.below hb_wv ra2.lt).lt
          have l3 := (ry2.below hb_wv ry2.lt).lt
          have ra3 := ((ra2.below hb_wv ra2.lt).alloc (.cells (v8 zero32) 23)).setRowOther (g := wv.heap.size) (by omega) (v8 Z)
          have ry3 := ((ry2.below hb_wv ry2.lt).alloc (.cells (v8 zero32) 23)).setRowOther (g := wv.heap.size) (by omega) (v8 Z)
          have rz3 := (Row.new wv 23 (v8 zero32)).setRow (v8 Z)
          have b7 : Below w.heap.size w ((wv.alloc (.cells (v8 zero32) 23)).setRow wv.heap.size (v8 Z)) := below_setRow (b6.alloc b6.size _) b6.size _
          obtain ⟨gz, hgz⟩ : ∃ gz, gz = wv.heap.size := ⟨_, rfl⟩
          rw [← hgz] at ra3 ry3 rz3 b7 l2 l3 ⊢
          generalize (wv.alloc (.cells (v8 zero32) 23)).setRow gz (v8 Z) = w7 at ra3 ry3 rz3 b7 ⊢
          clear hgz b6 hb_wv ra2 ry2 b5 c2
          go_upto_region 17 with (first | (refine load_rowW ?hw 23 (.tmp 10) (by rfl) gy (by rfl) 23 (v8 Y) (0, 0) _ ry3 Try.underlying23 rfl sy ?_; (case hw => rfl)) | (go_at_call 16; with_reducible refine Calls.mono (c3 _) ?_; rintro e wu ⟨rfl, hb_wu⟩) | (refine store_row0 23 (.tmp 14) (.tmp 76) (by rfl) (by rfl) (by rfl) wu.heap.size (v8 Z) (by rfl) (by rfl) 23 _ (Row.new wu 23 (v8 zero32)) sz zz (v8_one _) ?_))
          change Code.wp _ _ _ _ ((wu.alloc (.cells (v8 zero32) 23)).setRow wu.heap.size (v8 Z))
          have b8 : Below w.heap.size w wu := b7.trans (hb_wu.mono b7.size)
          have l4 := (ra3.below hb_wu ra3.lt).lt
          have l5 := (ry3.below hb_wu ry3.lt).lt
          have l6 := (rz3.below hb_wu rz3.lt).lt
          have ra4 := ((ra3.below hb_wu ra3.lt).alloc (.cells (v8 zero32) 23)).setRowOther (g := wu.heap.size) (by omega) (v8 Z)
          have ry4 := ((ry3.below hb_wu ry3.lt).alloc (.cells (v8 zero32) 23)).setRowOther (g := wu.heap.size) (by omega) (v8 Z)
          have rz4 := ((rz3.below hb_wu rz3.lt).alloc (.cells (v8 zero32) 23)).setRowOther (g := wu.heap.size) (by omega) (v8 Z)
          have rw4 := (Row.new wu 23 (v8 zero32)).setRow (v8 Z)
          have b9 : Below w.heap.size w ((wu.alloc (.cells (v8 zero32) 23)).setRow wu.heap.size (v8 Z)) := below_setRow (b8.alloc b8.size _) b8.size _
          obtain ⟨gw, hgw⟩ : ∃ gw, gw = wu.heap.size := ⟨_, rfl⟩
          rw [← hgw] at ra4 ry4 rz4 rw4 b9 l4 l5 l6 ⊢
          generalize (wu.alloc (.cells (v8 zero32) 23)).setRow gw (v8 Z) = w9 at ra4 ry4 rz4 rw4 b9 ⊢
          clear hgw b8 hb_wu ra3 ry3 rz3 b7 c3
          have hB : Below w9.heap.size w9 w9 := Below.refl _ _
          go_wp2_with (first | (refine load_rowW ?hw 23 (.tmp 14) (by rfl) gw (by rfl) 23 (v8 Z) (0, 0) _ (rw4.below hB rw4.lt) Try.underlying23 rfl sz ?_; (case hw => rfl)) | (refine load_rowW ?hw 23 (.tmp 12) (by rfl) gz (by rfl) 23 (v8 Z) (0, 0) _ (rz4.below hB rz4.lt) Try.underlying23 rfl sz ?_; (case hw => rfl)) | (refine load_rowW ?hw 23 (.tmp 10) (by rfl) gy (by rfl) 23 (v8 Y) (0, 0) _ (ry4.below hB ry4.lt) Try.underlying23 rfl sy ?_; (case hw => rfl)) | (refine load_rowW ?hw 23 (.tmp 2) (by rfl) w.heap.size (by rfl) 23 (v8 a) (0, 0) _ (ra4.below hB ra4.lt) Try.underlying23 rfl sa ?_; (case hw => rfl)) | (go_at_call 12; with_reducible refine Calls.mono (c4 _) ?_; rintro e w1 ⟨rfl, hb1⟩; have hB := hB.trans (hb1.mono hB.size)))
          go_ret
          exact ⟨rfl, b9.trans (hB.mono b9.size)⟩
end Go.Proofs.Ytkmhnpkkkhglpaa
