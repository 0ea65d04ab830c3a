/- A number read, in the reference of lms. No old memory turns. -/
import Derived.Test.YtoebnkepeledmaaDoorLmsLx
import Derived.Test.YtoebnkepeledmaaDoorGi
namespace Go.Proofs.YtoebnkepeledmaaDoor
open Go Go.RowKit

theorem or_i64 (n m a y : Nat) (hm : 2 ^ n = m) (hy : y < m) (h : a * m + y < 9223372036854775808) : bits .or .i64 ((a * m : Nat) : Int) (y : Int) = ((a * m + y : Nat) : Int) := by
  show IntKind.i64.wrap ((BitVec.ofInt 64 ((a * m : Nat) : Int) ||| BitVec.ofInt 64 (y : Int)).toNat : Int) = _
  rw [BitVec.toNat_or, BitVec.ofInt_natCast, BitVec.ofInt_natCast, BitVec.toNat_ofNat, BitVec.toNat_ofNat, Nat.mod_eq_of_lt (by omega), Nat.mod_eq_of_lt (by omega)]
  have := Nat.two_pow_add_eq_or_of_lt (i := n) (b := y) (by rw [hm]; exact hy) a
  rw [hm] at this
  rw [Nat.mul_comm a m, ← this, IntKind.wrap_i64]
  rw [Nat.mul_comm a m] at h
  omega
theorem get_or1 (x : Nat) (m y : Nat) (n : Nat) (hm : 2 ^ n = m) (hx : x < 1073741824) (hm' : m ≤ 16777216) (hy : y < m) : bits .or .i64 ((x : Int) * (m : Int)) (y : Int) = (x : Int) * (m : Int) + (y : Int) := by
  have h : x * m + y < 9223372036854775808 := by
    have : x * m ≤ 1073741824 * 16777216 := Nat.mul_le_mul (Nat.le_of_lt hx) hm'
    omega
  have := or_i64 n m x y hm hy h
  rw [Int.natCast_mul, Int.natCast_add, Int.natCast_mul] at this
  exact this
theorem get_ors (a b c d : Int) (ha : 0 ≤ a ∧ a < 256) (hb : 0 ≤ b ∧ b < 256) (hc : 0 ≤ c ∧ c < 256) (hd : 0 ≤ d ∧ d < 256) :
    bits .or .i64 (a * 16777216) (b * 65536) = a * 16777216 + b * 65536 ∧ bits .or .i64 (a * 16777216 + b * 65536) (c * 256) = a * 16777216 + b * 65536 + c * 256 ∧ bits .or .i64 (a * 16777216 + b * 65536 + c * 256) d = a * 16777216 + b * 65536 + c * 256 + d := by
  obtain ⟨x, rfl⟩ := Int.eq_ofNat_of_zero_le ha.1
  obtain ⟨y, rfl⟩ := Int.eq_ofNat_of_zero_le hb.1
  obtain ⟨z, rfl⟩ := Int.eq_ofNat_of_zero_le hc.1
  obtain ⟨u, rfl⟩ := Int.eq_ofNat_of_zero_le hd.1
  have hx : x < 256 := Int.ofNat_lt.mp ha.2
  have hy : y < 256 := Int.ofNat_lt.mp hb.2
  have hz : z < 256 := Int.ofNat_lt.mp hc.2
  have hu : u < 256 := Int.ofNat_lt.mp hd.2
  clear ha hb hc hd
  refine ⟨?_, ?_, ?_⟩
  · have h := get_or1 x 16777216 (y * 65536) 24 (by decide) (Nat.lt_trans hx (by decide)) (by decide) (by
      have : y * 65536 ≤ 255 * 65536 := Nat.mul_le_mul (by omega) (Nat.le_refl _)
      exact Nat.lt_of_le_of_lt this (by decide))
    rw [Int.natCast_mul] at h
    exact h
  · have h := get_or1 (x * 256 + y) 65536 (z * 256) 16 (by decide) (by omega) (by decide) (by omega)
    rw [Int.natCast_mul, Int.natCast_add, Int.natCast_mul] at h
    have e : ((x : Int) * ((256 : Nat) : Int) + (y : Int)) * ((65536 : Nat) : Int) = (x : Int) * 16777216 + (y : Int) * 65536 := by
      rw [Int.add_mul, Int.mul_assoc]; rfl
    rw [e] at h
    exact h
  · have h := get_or1 ((x * 256 + y) * 256 + z) 256 u 8 (by decide) (by omega) (by decide) hu
    rw [Int.natCast_add, Int.natCast_mul, Int.natCast_add, Int.natCast_mul] at h
    have e : (((x : Int) * ((256 : Nat) : Int) + (y : Int)) * ((256 : Nat) : Int) + (z : Int)) * ((256 : Nat) : Int) = (x : Int) * 16777216 + (y : Int) * 65536 + (z : Int) * 256 := by
      rw [Int.add_mul, Int.add_mul, Int.add_mul, Int.mul_assoc, Int.mul_assoc, Int.mul_assoc]; rfl
    rw [e] at h
    exact h

set_option maxRecDepth 20000 in
set_option maxHeartbeats 1000000 in
theorem six_get_any (l : List Int) (sp : Option Addr) (len cap : Nat) (w : World) (hl : 4 ≤ l.length) (hlen : l.length = len) (hby : Bytes w sp l) (hr : ∀ x ∈ l, 0 ≤ x ∧ x < 256) :
    Calls Tryd.prog 55 #[.slice sp len cap] w fun e w' => e = .returned (.int .i64 (num4 l 0)) ∧ Below w.heap.size w w' := by
  have hg : ∀ j, j < 4 → 0 ≤ gi l j ∧ gi l j < 256 := fun j hj => by
    have : gi l j = l[j]'(by omega) := by simp [gi, List.getD, List.getElem?_eq_getElem (show j < l.length by omega)]
    rw [this]; exact hr _ (List.getElem_mem _)
  obtain ⟨o1, o2, o3⟩ := get_ors (gi l 0) (gi l 1) (gi l 2) (gi l 3) (hg 0 (by decide)) (hg 1 (by decide)) (hg 2 (by decide)) (hg 3 (by decide))
  have g0 := hg 0 (by decide)
  have g1 := hg 1 (by decide)
  have g2 := hg 2 (by decide)
  have g3 := hg 3 (by decide)
  have hnum : num4 l 0 = gi l 0 * 16777216 + gi l 1 * 65536 + gi l 2 * 256 + gi l 3 := rfl
  rw [hnum]
  obtain ⟨b, o, rfl, hc⟩ := hby (by omega)
  have c0 := hc 0 (by omega)
  have c1 := hc 1 (by omega)
  have c2 := hc 2 (by omega)
  have c3 := hc 3 (by omega)
  simp only [Nat.add_zero] at c0
  have hl0 : ((0 : Int) < (len : Int)) := by omega
  have hl1 : ((1 : Int) < (len : Int)) := by omega
  have hl2 : ((2 : Int) < (len : Int)) := by omega
  have hl3 : ((3 : Int) < (len : Int)) := by omega
  clear hc hr hg hnum hlen hl hby
  generalize gi l 0 = x0 at *
  generalize gi l 1 = x1 at *
  generalize gi l 2 = x2 at *
  generalize gi l 3 = x3 at *
  go_enter Tryd.func55, Tryd.ntmps55
  go_upto_region 1 with fail
  go_quiet (fail)
  go_wp2
  go_ret
  exact ⟨rfl, below_drewN (Below.refl _ _) _⟩
end Go.Proofs.YtoebnkepeledmaaDoor
