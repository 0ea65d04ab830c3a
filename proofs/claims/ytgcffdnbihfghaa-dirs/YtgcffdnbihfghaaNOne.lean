/- The reference's 'one' answers the rune at a place, of every text, and turns nothing. -/
import Derived.Test.YtgcffdnbihfghaaNCheck
import Derived.Laws.BitsAllLaws
namespace Go.Proofs.Ytgcffdnbihfghaa
open Go.RowKit

theorem and192 (x : Nat) (h : x < 256) : (bits .and .u8 (x : Int) 192 != 128) = !(x / 64 == 2) := by
  have e := u8_and_nat x 192 h (by decide)
  have hd : ∀ y : Fin 256, ((((y.val &&& 192 : Nat) : Int) != 128) = !(y.val / 64 == 2)) := by decide +kernel
  rw [show ((192 : Int)) = ((192 : Nat) : Int) from rfl, e]
  exact hd ⟨x, h⟩
theorem val_one {l : List UInt8} (h : bt l 0 < 128) : oneL l = (bt l 0, 1) := by
  have e : decL l = (bt l 0, 1) := by simp [decL, h]
  have : brk l = false := by unfold brk; rw [e]; simp; omega
  rw [oneL_of this, e]
theorem val_none {l : List UInt8} (h : 128 ≤ bt l 0) (h2 : bt l 0 < 192 ∨ 248 ≤ bt l 0) : oneL l = (0, 0) := by
  have e : decL l = (65533, 1) := by
    unfold decL ctn
    simp only [Bool.and_eq_true, beq_iff_eq, decide_eq_true_eq, valid_iff, ge_iff_le]
    repeat' split
    all_goals first | omega | rfl
  simp [oneL, brk, e]
def is2 (l : List UInt8) : Prop := 1 < l.length ∧ bt l 1 / 64 = 2 ∧ 128 ≤ two l
def is3 (l : List UInt8) : Prop := 2 < l.length ∧ bt l 1 / 64 = 2 ∧ bt l 2 / 64 = 2 ∧ 2048 ≤ thr l ∧ (thr l < 55296 ∨ 57343 < thr l) ∧ thr l ≤ 1114111
def is4 (l : List UInt8) : Prop := 3 < l.length ∧ bt l 1 / 64 = 2 ∧ bt l 2 / 64 = 2 ∧ bt l 3 / 64 = 2 ∧ 65536 ≤ fou l ∧ (fou l < 55296 ∨ 57343 < fou l) ∧ fou l ≤ 1114111
theorem val2_yes {l : List UInt8} (h1 : 192 ≤ bt l 0) (h2 : bt l 0 < 224) (h : is2 l) : oneL l = (two l, 2) := by
  have e : decL l = (two l, 2) := by
    unfold is2 at h
    unfold decL ctn
    simp only [Bool.and_eq_true, beq_iff_eq, decide_eq_true_eq, valid_iff, ge_iff_le]
    repeat' split
    all_goals first | omega | rfl
  have : brk l = false := by unfold brk; rw [e]; simp
  rw [oneL_of this, e]
theorem val2_no {l : List UInt8} (h1 : 192 ≤ bt l 0) (h2 : bt l 0 < 224) (h : ¬ is2 l) : oneL l = (0, 0) := by
  have e : decL l = (65533, 1) := by
    unfold is2 at h
    unfold decL ctn
    simp only [Bool.and_eq_true, beq_iff_eq, decide_eq_true_eq, valid_iff, ge_iff_le]
    repeat' split
    all_goals first | omega | rfl
  simp [oneL, brk, e]
theorem val3_yes {l : List UInt8} (h1 : 224 ≤ bt l 0) (h2 : bt l 0 < 240) (h : is3 l) : oneL l = (thr l, 3) := by
  have e : decL l = (thr l, 3) := by
    unfold is3 at h
    unfold decL ctn
    simp only [Bool.and_eq_true, beq_iff_eq, decide_eq_true_eq, valid_iff, ge_iff_le]
    repeat' split
    all_goals first | omega | rfl
  have : brk l = false := by unfold brk; rw [e]; simp
  rw [oneL_of this, e]
theorem val3_no {l : List UInt8} (h1 : 224 ≤ bt l 0) (h2 : bt l 0 < 240) (h : ¬ is3 l) : oneL l = (0, 0) := by
  have e : decL l = (65533, 1) := by
    unfold is3 at h
    unfold decL ctn
    simp only [Bool.and_eq_true, beq_iff_eq, decide_eq_true_eq, valid_iff, ge_iff_le]
    repeat' split
    all_goals first | omega | rfl
  simp [oneL, brk, e]
theorem val4_yes {l : List UInt8} (h1 : 240 ≤ bt l 0) (h2 : bt l 0 < 248) (h : is4 l) : oneL l = (fou l, 4) := by
  have e : decL l = (fou l, 4) := by
    unfold is4 at h
    unfold decL ctn
    simp only [Bool.and_eq_true, beq_iff_eq, decide_eq_true_eq, valid_iff, ge_iff_le]
    repeat' split
    all_goals first | omega | rfl
  have : brk l = false := by unfold brk; rw [e]; simp
  rw [oneL_of this, e]
theorem val4_no {l : List UInt8} (h1 : 240 ≤ bt l 0) (h2 : bt l 0 < 248) (h : ¬ is4 l) : oneL l = (0, 0) := by
  have e : decL l = (65533, 1) := by
    unfold is4 at h
    unfold decL ctn
    simp only [Bool.and_eq_true, beq_iff_eq, decide_eq_true_eq, valid_iff, ge_iff_le]
    repeat' split
    all_goals first | omega | rfl
  simp [oneL, brk, e]
def rel2 (l : List UInt8) (q1 : Bool) (v k : Value) : Prop := (k = .int .i64 1 ∧ v = .int .i32 ((bt l 0 : Int) % 32)) ∨ (k = .int .i64 2 ∧ v = .int .i32 ((((bt l 0 : Int) % 32)) * 64 + (bt l 1 : Int) % 64) ∧ q1 = false)
def rel3 (l : List UInt8) (q1 q2 : Bool) (v k : Value) : Prop := (k = .int .i64 1 ∧ v = .int .i32 ((bt l 0 : Int) % 16)) ∨ (k = .int .i64 2 ∧ v = .int .i32 ((((bt l 0 : Int) % 16)) * 64 + (bt l 1 : Int) % 64) ∧ q1 = false) ∨ (k = .int .i64 3 ∧ v = .int .i32 ((((((bt l 0 : Int) % 16)) * 64 + (bt l 1 : Int) % 64)) * 64 + (bt l 2 : Int) % 64) ∧ q1 = false ∧ q2 = false)
def rel4 (l : List UInt8) (q1 q2 q3 : Bool) (v k : Value) : Prop := (k = .int .i64 1 ∧ v = .int .i32 ((bt l 0 : Int) % 8)) ∨ (k = .int .i64 2 ∧ v = .int .i32 ((((bt l 0 : Int) % 8)) * 64 + (bt l 1 : Int) % 64) ∧ q1 = false) ∨ (k = .int .i64 3 ∧ v = .int .i32 ((((((bt l 0 : Int) % 8)) * 64 + (bt l 1 : Int) % 64)) * 64 + (bt l 2 : Int) % 64) ∧ q1 = false ∧ q2 = false) ∨ (k = .int .i64 4 ∧ v = .int .i32 ((((((((bt l 0 : Int) % 8)) * 64 + (bt l 1 : Int) % 64)) * 64 + (bt l 2 : Int) % 64)) * 64 + (bt l 3 : Int) % 64) ∧ q1 = false ∧ q2 = false ∧ q3 = false)
set_option maxRecDepth 20000 in
set_option maxHeartbeats 1000000 in
theorem one_two (s : ByteArray) (i : Nat) (w : World) (hi : i < s.size) (hs : s.size ≤ 4611686018427387904) (h1 : 192 ≤ bt (s.data.toList.drop i) 0) (h2 : bt (s.data.toList.drop i) 0 < 224) :
    Calls Try.prog 52 #[.string s, .int .i64 i] w fun e w' => e = .returned (.tuple #[.int .i32 (oneL (s.data.toList.drop i)).1, .int .i64 (oneL (s.data.toList.drop i)).2]) ∧ w' = w := by
  have h0 : (s[i]'hi).toNat = bt (s.data.toList.drop i) 0 := by rw [← get_drop, get_at]
  have hl : (s.data.toList.drop i).length = s.size - i := by simp
  go_enter Try.func52, Try.ntmps52
  by_cases hlen : i + 2 ≤ s.size
  · have hq : ((i : Int) + 2 ≤ (s.size : Int)) := by omega
    have k1 : (s[i + 1]'(by omega)).toNat = bt (s.data.toList.drop i) 1 := by rw [← get_drop, ← get_at]
    have b1 := bt_lt (s.data.toList.drop i) 1
    have m1 := and192 _ b1
    have y0 := @val2_no (s.data.toList.drop i) h1 h2
    have y1 := @val2_yes (s.data.toList.drop i) h1 h2
    generalize hL : s.data.toList.drop i = l at *
    have b0 := bt_lt l 0
    have d128 : decide ((bt l 0 : Int) < 128) = false := by simp; omega
    have d224 : decide ((bt l 0 : Int) < 224) = true := by simp; omega
    have d240 : decide ((bt l 0 : Int) < 240) = true := by simp; omega
    have d248 : decide ((bt l 0 : Int) < 248) = true := by simp; omega
    have g192 : decide (192 ≤ (bt l 0 : Int)) = true := by simp; omega
    have g224 : decide (224 ≤ (bt l 0 : Int)) = false := by simp; omega
    have g240 : decide (240 ≤ (bt l 0 : Int)) = false := by simp; omega
    generalize hq1 : (!(bt l 1 / 64 == 2)) = q1 at *
    go_wp2
    go_loop [8, 9] (fun v k => rel2 l q1 v k) (fun _ k => 2 - (intOf k).toNat)
    case atStart => exact Or.inl ⟨rfl, rfl⟩
    case round =>
      rcases hrel with ⟨rfl, rfl⟩ | ⟨rfl, rfl, rfl⟩
      · cases q1
        · go_wp2
          go_round
          case rel => exact Or.inr (⟨by go_num, rfl, rfl⟩)
          case measure => simp [intOf]
        · go_wp2
          go_ret2
          have hb1 : ¬ bt l 1 / 64 = 2 := by simpa using hq1
          exact ⟨by rw [y0 (fun h => by unfold is2 at h; omega)]; rfl, rfl⟩
      · have hb1 : bt l 1 / 64 = 2 := by simpa using hq1
        have ev : ((((bt l 0 : Int) % 32)) * 64 + (bt l 1 : Int) % 64) = ((two l : Nat) : Int) := by unfold two; omega
        rw [ev]
        have hfl : two l ≤ 2097151 := by unfold two; omega
        go_wp2
        all_goals go_ret2
        all_goals first | exact ⟨by rw [y0 (fun h => by unfold is2 at h; omega)]; rfl, rfl⟩ | exact ⟨by rw [y1 (by unfold is2; omega)]; rfl, rfl⟩
  · have hq : ((s.size : Int) < (i : Int) + 2) := by omega
    have y0 := @val2_no (s.data.toList.drop i) h1 h2 (fun h => by unfold is2 at h; omega)
    go_wp2
    go_ret2
    exact ⟨by rw [y0]; rfl, rfl⟩
set_option maxRecDepth 20000 in
set_option maxHeartbeats 1000000 in
theorem one_thr (s : ByteArray) (i : Nat) (w : World) (hi : i < s.size) (hs : s.size ≤ 4611686018427387904) (h1 : 224 ≤ bt (s.data.toList.drop i) 0) (h2 : bt (s.data.toList.drop i) 0 < 240) :
    Calls Try.prog 52 #[.string s, .int .i64 i] w fun e w' => e = .returned (.tuple #[.int .i32 (oneL (s.data.toList.drop i)).1, .int .i64 (oneL (s.data.toList.drop i)).2]) ∧ w' = w := by
  have h0 : (s[i]'hi).toNat = bt (s.data.toList.drop i) 0 := by rw [← get_drop, get_at]
  have hl : (s.data.toList.drop i).length = s.size - i := by simp
  go_enter Try.func52, Try.ntmps52
  by_cases hlen : i + 3 ≤ s.size
  · have hq : ((i : Int) + 3 ≤ (s.size : Int)) := by omega
    have k1 : (s[i + 1]'(by omega)).toNat = bt (s.data.toList.drop i) 1 := by rw [← get_drop, ← get_at]
    have b1 := bt_lt (s.data.toList.drop i) 1
    have m1 := and192 _ b1
    have k2 : (s[i + 2]'(by omega)).toNat = bt (s.data.toList.drop i) 2 := by rw [← get_drop, ← get_at]
    have b2 := bt_lt (s.data.toList.drop i) 2
    have m2 := and192 _ b2
    have y0 := @val3_no (s.data.toList.drop i) h1 h2
    have y1 := @val3_yes (s.data.toList.drop i) h1 h2
    generalize hL : s.data.toList.drop i = l at *
    have b0 := bt_lt l 0
    have d128 : decide ((bt l 0 : Int) < 128) = false := by simp; omega
    have d224 : decide ((bt l 0 : Int) < 224) = false := by simp; omega
    have d240 : decide ((bt l 0 : Int) < 240) = true := by simp; omega
    have d248 : decide ((bt l 0 : Int) < 248) = true := by simp; omega
    have g192 : decide (192 ≤ (bt l 0 : Int)) = true := by simp; omega
    have g224 : decide (224 ≤ (bt l 0 : Int)) = true := by simp; omega
    have g240 : decide (240 ≤ (bt l 0 : Int)) = false := by simp; omega
    generalize hq1 : (!(bt l 1 / 64 == 2)) = q1 at *
    generalize hq2 : (!(bt l 2 / 64 == 2)) = q2 at *
    go_wp2
    go_loop [8, 9] (fun v k => rel3 l q1 q2 v k) (fun _ k => 3 - (intOf k).toNat)
    case atStart => exact Or.inl ⟨rfl, rfl⟩
    case round =>
      rcases hrel with ⟨rfl, rfl⟩ | ⟨rfl, rfl, rfl⟩ | ⟨rfl, rfl, rfl, rfl⟩
      · cases q1
        · go_wp2
          go_round
          case rel => exact Or.inr (Or.inl ⟨by go_num, rfl, rfl⟩)
          case measure => simp [intOf]
        · go_wp2
          go_ret2
          have hb1 : ¬ bt l 1 / 64 = 2 := by simpa using hq1
          exact ⟨by rw [y0 (fun h => by unfold is3 at h; omega)]; rfl, rfl⟩
      · cases q2
        · go_wp2
          go_round
          case rel => exact Or.inr (Or.inr (⟨by go_num, rfl, rfl, rfl⟩))
          case measure => simp [intOf]
        · go_wp2
          go_ret2
          have hb2 : ¬ bt l 2 / 64 = 2 := by simpa using hq2
          exact ⟨by rw [y0 (fun h => by unfold is3 at h; omega)]; rfl, rfl⟩
      · have hb1 : bt l 1 / 64 = 2 := by simpa using hq1
        have hb2 : bt l 2 / 64 = 2 := by simpa using hq2
        have ev : ((((((bt l 0 : Int) % 16)) * 64 + (bt l 1 : Int) % 64)) * 64 + (bt l 2 : Int) % 64) = ((thr l : Nat) : Int) := by unfold thr; omega
        rw [ev]
        have hfl : thr l ≤ 2097151 := by unfold thr; omega
        go_wp2
        all_goals go_ret2
        all_goals first | exact ⟨by rw [y0 (fun h => by unfold is3 at h; omega)]; rfl, rfl⟩ | exact ⟨by rw [y1 (by unfold is3; omega)]; rfl, rfl⟩
  · have hq : ((s.size : Int) < (i : Int) + 3) := by omega
    have y0 := @val3_no (s.data.toList.drop i) h1 h2 (fun h => by unfold is3 at h; omega)
    go_wp2
    go_ret2
    exact ⟨by rw [y0]; rfl, rfl⟩
set_option maxRecDepth 20000 in
set_option maxHeartbeats 1000000 in
theorem one_fou (s : ByteArray) (i : Nat) (w : World) (hi : i < s.size) (hs : s.size ≤ 4611686018427387904) (h1 : 240 ≤ bt (s.data.toList.drop i) 0) (h2 : bt (s.data.toList.drop i) 0 < 248) :
    Calls Try.prog 52 #[.string s, .int .i64 i] w fun e w' => e = .returned (.tuple #[.int .i32 (oneL (s.data.toList.drop i)).1, .int .i64 (oneL (s.data.toList.drop i)).2]) ∧ w' = w := by
  have h0 : (s[i]'hi).toNat = bt (s.data.toList.drop i) 0 := by rw [← get_drop, get_at]
  have hl : (s.data.toList.drop i).length = s.size - i := by simp
  go_enter Try.func52, Try.ntmps52
  by_cases hlen : i + 4 ≤ s.size
  · have hq : ((i : Int) + 4 ≤ (s.size : Int)) := by omega
    have k1 : (s[i + 1]'(by omega)).toNat = bt (s.data.toList.drop i) 1 := by rw [← get_drop, ← get_at]
    have b1 := bt_lt (s.data.toList.drop i) 1
    have m1 := and192 _ b1
    have k2 : (s[i + 2]'(by omega)).toNat = bt (s.data.toList.drop i) 2 := by rw [← get_drop, ← get_at]
    have b2 := bt_lt (s.data.toList.drop i) 2
    have m2 := and192 _ b2
    have k3 : (s[i + 3]'(by omega)).toNat = bt (s.data.toList.drop i) 3 := by rw [← get_drop, ← get_at]
    have b3 := bt_lt (s.data.toList.drop i) 3
    have m3 := and192 _ b3
    have y0 := @val4_no (s.data.toList.drop i) h1 h2
    have y1 := @val4_yes (s.data.toList.drop i) h1 h2
    generalize hL : s.data.toList.drop i = l at *
    have b0 := bt_lt l 0
    have d128 : decide ((bt l 0 : Int) < 128) = false := by simp; omega
    have d224 : decide ((bt l 0 : Int) < 224) = false := by simp; omega
    have d240 : decide ((bt l 0 : Int) < 240) = false := by simp; omega
    have d248 : decide ((bt l 0 : Int) < 248) = true := by simp; omega
    have g192 : decide (192 ≤ (bt l 0 : Int)) = true := by simp; omega
    have g224 : decide (224 ≤ (bt l 0 : Int)) = true := by simp; omega
    have g240 : decide (240 ≤ (bt l 0 : Int)) = true := by simp; omega
    generalize hq1 : (!(bt l 1 / 64 == 2)) = q1 at *
    generalize hq2 : (!(bt l 2 / 64 == 2)) = q2 at *
    generalize hq3 : (!(bt l 3 / 64 == 2)) = q3 at *
    go_wp2
    go_loop [8, 9] (fun v k => rel4 l q1 q2 q3 v k) (fun _ k => 4 - (intOf k).toNat)
    case atStart => exact Or.inl ⟨rfl, rfl⟩
    case round =>
      rcases hrel with ⟨rfl, rfl⟩ | ⟨rfl, rfl, rfl⟩ | ⟨rfl, rfl, rfl, rfl⟩ | ⟨rfl, rfl, rfl, rfl, rfl⟩
      · cases q1
        · go_wp2
          go_round
          case rel => exact Or.inr (Or.inl ⟨by go_num, rfl, rfl⟩)
          case measure => simp [intOf]
        · go_wp2
          go_ret2
          have hb1 : ¬ bt l 1 / 64 = 2 := by simpa using hq1
          exact ⟨by rw [y0 (fun h => by unfold is4 at h; omega)]; rfl, rfl⟩
      · cases q2
        · go_wp2
          go_round
          case rel => exact Or.inr (Or.inr (Or.inl ⟨by go_num, rfl, rfl, rfl⟩))
          case measure => simp [intOf]
        · go_wp2
          go_ret2
          have hb2 : ¬ bt l 2 / 64 = 2 := by simpa using hq2
          exact ⟨by rw [y0 (fun h => by unfold is4 at h; omega)]; rfl, rfl⟩
      · cases q3
        · go_wp2
          go_round
          case rel => exact Or.inr (Or.inr (Or.inr (⟨by go_num, rfl, rfl, rfl, rfl⟩)))
          case measure => simp [intOf]
        · go_wp2
          go_ret2
          have hb3 : ¬ bt l 3 / 64 = 2 := by simpa using hq3
          exact ⟨by rw [y0 (fun h => by unfold is4 at h; omega)]; rfl, rfl⟩
      · have hb1 : bt l 1 / 64 = 2 := by simpa using hq1
        have hb2 : bt l 2 / 64 = 2 := by simpa using hq2
        have hb3 : bt l 3 / 64 = 2 := by simpa using hq3
        have ev : ((((((((bt l 0 : Int) % 8)) * 64 + (bt l 1 : Int) % 64)) * 64 + (bt l 2 : Int) % 64)) * 64 + (bt l 3 : Int) % 64) = ((fou l : Nat) : Int) := by unfold fou; omega
        rw [ev]
        have hfl : fou l ≤ 2097151 := by unfold fou; omega
        go_wp2
        all_goals go_ret2
        all_goals first | exact ⟨by rw [y0 (fun h => by unfold is4 at h; omega)]; rfl, rfl⟩ | exact ⟨by rw [y1 (by unfold is4; omega)]; rfl, rfl⟩
  · have hq : ((s.size : Int) < (i : Int) + 4) := by omega
    have y0 := @val4_no (s.data.toList.drop i) h1 h2 (fun h => by unfold is4 at h; omega)
    go_wp2
    go_ret2
    exact ⟨by rw [y0]; rfl, rfl⟩
set_option maxRecDepth 20000 in
set_option maxHeartbeats 1000000 in
theorem one_low (s : ByteArray) (i : Nat) (w : World) (hi : i < s.size) (h1 : bt (s.data.toList.drop i) 0 < 128) :
    Calls Try.prog 52 #[.string s, .int .i64 i] w fun e w' => e = .returned (.tuple #[.int .i32 (oneL (s.data.toList.drop i)).1, .int .i64 (oneL (s.data.toList.drop i)).2]) ∧ w' = w := by
  have h0 : (s[i]'hi).toNat = bt (s.data.toList.drop i) 0 := by rw [← get_drop, get_at]
  rw [val_one h1]
  go_enter Try.func52, Try.ntmps52
  go_wp2
  go_ret2
  exact ⟨rfl, rfl⟩
set_option maxRecDepth 20000 in
set_option maxHeartbeats 1000000 in
theorem one_none (s : ByteArray) (i : Nat) (w : World) (hi : i < s.size) (h1 : 128 ≤ bt (s.data.toList.drop i) 0) (h2 : bt (s.data.toList.drop i) 0 < 192 ∨ 248 ≤ bt (s.data.toList.drop i) 0) :
    Calls Try.prog 52 #[.string s, .int .i64 i] w fun e w' => e = .returned (.tuple #[.int .i32 (oneL (s.data.toList.drop i)).1, .int .i64 (oneL (s.data.toList.drop i)).2]) ∧ w' = w := by
  have h0 : (s[i]'hi).toNat = bt (s.data.toList.drop i) 0 := by rw [← get_drop, get_at]
  rw [val_none h1 h2]
  go_enter Try.func52, Try.ntmps52
  rcases h2 with h2 | h2
  all_goals
    go_wp2
    go_ret2
    exact ⟨rfl, rfl⟩

theorem one_any (s : ByteArray) (i : Nat) (w : World) (hi : i < s.size) (hs : s.size ≤ 4611686018427387904) :
    Calls Try.prog 52 #[.string s, .int .i64 i] w fun e w' => e = .returned (.tuple #[.int .i32 (oneL (s.data.toList.drop i)).1, .int .i64 (oneL (s.data.toList.drop i)).2]) ∧ w' = w := by
  by_cases a1 : bt (s.data.toList.drop i) 0 < 128
  · exact one_low s i w hi a1
  by_cases a2 : bt (s.data.toList.drop i) 0 < 192
  · exact one_none s i w hi (by omega) (Or.inl a2)
  by_cases a3 : bt (s.data.toList.drop i) 0 < 224
  · exact one_two s i w hi hs (by omega) a3
  by_cases a4 : bt (s.data.toList.drop i) 0 < 240
  · exact one_thr s i w hi hs (by omega) a4
  by_cases a5 : bt (s.data.toList.drop i) 0 < 248
  · exact one_fou s i w hi hs (by omega) a5
  · exact one_none s i w hi (by omega) (Or.inr (by omega))
end Go.Proofs.Ytgcffdnbihfghaa
