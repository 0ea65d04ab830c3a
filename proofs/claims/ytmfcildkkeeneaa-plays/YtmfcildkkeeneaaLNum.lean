/- What eight bytes say, in the program: what number answers. No old memory turns. -/
import Derived.Test.YtmfcildkkeeneaaLRec
import Derived.Test.YtmfcildkkeeneaaMild
namespace Go.Proofs.Ytmfcildkkeeneaa
open Go Go.RowKit

theorem or_byte (n x : Int) (h0 : 0 ≤ n) (h1 : n < 1099511627776) (h2 : 0 ≤ x) (h3 : x < 256) : bits .or .i64 (n * 256) x = n * 256 + x := by
  obtain ⟨a, rfl⟩ := Int.eq_ofNat_of_zero_le h0
  obtain ⟨b, rfl⟩ := Int.eq_ofNat_of_zero_le h2
  show IntKind.i64.wrap ((BitVec.ofInt 64 ((a : Int) * 256) ||| BitVec.ofInt 64 (b : Int)).toNat : Int) = _
  have e1 : (BitVec.ofInt 64 ((a : Int) * 256)).toNat = a * 256 := by
    rw [show ((a : Int) * 256) = ((a * 256 : Nat) : Int) by simp, BitVec.ofInt_natCast, BitVec.toNat_ofNat]; exact Nat.mod_eq_of_lt (by omega)
  have e2 : (BitVec.ofInt 64 (b : Int)).toNat = b := by
    rw [BitVec.ofInt_natCast, BitVec.toNat_ofNat]; exact Nat.mod_eq_of_lt (by omega)
  rw [BitVec.toNat_or, e1, e2]
  have := Nat.two_pow_add_eq_or_of_lt (i := 8) (b := b) (by omega) a
  rw [Nat.mul_comm a 256, show (256 : Nat) = 2 ^ 8 from rfl, ← this, IntKind.wrap_i64]
  omega
/-- The number of the first k bytes. -/
def beK (r : List Int) : Nat → Int
  | 0 => 0
  | k + 1 => beK r k * 256 + gi r k
theorem beK_four (r : List Int) : beK r 4 = be4 r := by
  show (((0 * 256 + gi r 0) * 256 + gi r 1) * 256 + gi r 2) * 256 + gi r 3 = _
  rw [Int.zero_mul, Int.zero_add]; rfl
theorem gi_by {r : List Int} (hb : By r) (k : Nat) (hk : k < r.length) : 0 ≤ gi r k ∧ gi r k < 256 := hb _ (by simp [gi, hk])
theorem beK_range {r : List Int} (hl : r.length = 8) (hb : By r) {k : Nat} (hk : k ≤ 4) : 0 ≤ beK r k ∧ beK r k < 4294967296 := by
  have h0 := gi_by hb 0 (by omega)
  have h1 := gi_by hb 1 (by omega)
  have h2 := gi_by hb 2 (by omega)
  have h3 := gi_by hb 3 (by omega)
  rcases (by omega : k = 0 ∨ k = 1 ∨ k = 2 ∨ k = 3 ∨ k = 4) with rfl | rfl | rfl | rfl | rfl <;> simp only [beK] <;> omega

set_option maxRecDepth 20000 in
set_option maxHeartbeats 1000000 in
theorem number_any (r : List Int) (w : World) (hl : r.length = 8) (hb : By r) :
    Calls Try.prog 31 #[.agg (v8 r)] w fun e w' => e = .returned (.int .i64 (numL r)) ∧ Below w.heap.size w w' := by
  have h67 := info67 hl
  obtain ⟨N, hN⟩ : ∃ N, be4 r = N := ⟨_, rfl⟩
  obtain ⟨R, hR⟩ : ∃ R, recL N = R := ⟨_, rfl⟩
  obtain ⟨B, hB⟩ : ∃ B, (!decide (r = R)) = B := ⟨_, rfl⟩
  obtain ⟨V, hV⟩ : ∃ V, numL r = V := ⟨_, rfl⟩
  have hrec := fun w1 => record_any N w1
  have hneq : ∀ wx, (binOp .neq 67 (.agg (v8 r)) (.agg (v8 R))).run Try.prog wx = .ok (.bool B) wx := fun wx => by
    rw [← hB]; exact run_neq_bytes wx 67 5 8 _ _ Try.underlying67 Try.underlying5 (by kernel_rfl) hl (by rw [← hR]; rfl)
  have hBV : (B = true → V = 0) ∧ (B = false → V = N) := by
    have hbe := rec_be4 hl hb
    rw [hN, hR] at hbe
    have hnum : numL r = if okR r then be4 r else 0 := rfl
    rw [hN, hV] at hnum
    by_cases hok : okR r
    · rw [if_pos hok] at hnum
      have := hbe.2 hok
      rw [decide_eq_true this] at hB
      subst hB
      exact ⟨fun h => (by cases h), fun _ => hnum⟩
    · rw [if_neg hok] at hnum
      have : ¬ r = R := fun h => hok (hbe.1 h)
      rw [decide_eq_false this] at hB
      subst hB
      exact ⟨fun _ => hnum, fun h => (by cases h)⟩
  have hbk : beK r 4 = N := (beK_four r).trans hN
  rw [hR] at hrec
  rw [hV]
  clear hN hR hB hV
  go_enter Try.func31, Try.ntmps31
  go_wp2
  go_loopw [3, 8] (fun n i wr => ∃ k : Nat, k ≤ 4 ∧ i = .int .i64 k ∧ n = .int .i64 (beK r k) ∧ Row wr w.heap.size 67 (v8 r) ∧ Below w.heap.size w wr) (fun _ i _ => 4 - (intOf i).toNat)
  case atStart =>
    exact ⟨0, by omega, rfl, rfl, Row.new _ 67 _, (Below.refl _ _).alloc (Nat.le_refl _) _⟩
  case round =>
    obtain ⟨k, hk, rfl, rfl, r1, hbel⟩ := hrel
    by_cases hlt : k < 4
    · have c1 := r1.cell8 (j := k) (by omega)
      have q1 := beK_range hl hb (k := k) (by omega)
      have q2 := gi_by hb k (by omega)
      have hor := or_byte (beK r k) (gi r k) q1.1 (by omega) q2.1 q2.2
      go_wp2
      go_roundw
      case rel => exact ⟨k + 1, by omega, by go_num, rfl, r1, hbel⟩
      case measure => simp [intOf]; omega
    · obtain rfl : k = 4 := by omega
      rw [hbk]
      cases B with
      | true =>
        obtain rfl := hBV.1 rfl
        clear hBV hbk
        go_upto_region 7 with fail
        refine region_tail 3 (by kernel_rfl) (by kernel_rfl) (by kernel_rfl) ?_
        apply Exists.intro
        refine ⟨fun ι _ W hb' hc => ?_, fun w6 hb6 => ?_⟩
        · have t2 : ∀ i, Row (W i) w.heap.size 67 (v8 r) := fun i => r1.below (hb' i) r1.lt
          simp only [List.take_succ_cons, List.take_zero]
          refine q_load_row 67 (.tmp 1) (by rfl) (by kernel_rfl) w.heap.size (by rfl) 67 _ _ t2 Try.underlying67 rfl h67 ?_
          simp only [Act.put, List.setIfInBounds_toArray, List.set_cons_succ, List.set_cons_zero]
          go_big_quiet_step (fail)
          go_big_quiet_step ((go_at_call 32; exact (hrec _).mono (fun e w' ⟨he, hw⟩ => ⟨he, hc _ _ hw⟩)))
          exact wpQuiet_nil rfl
        · simp only [List.drop_succ_cons, List.drop_zero]
          have vb := hbel.trans (hb6.mono hbel.size)
          go_wp2
          go_ret
          exact ⟨rfl, vb⟩
      | false =>
        obtain rfl := hBV.2 rfl
        clear hBV hbk
        go_upto_region 7 with fail
        refine region_tail 3 (by kernel_rfl) (by kernel_rfl) (by kernel_rfl) ?_
        apply Exists.intro
        refine ⟨fun ι _ W hb' hc => ?_, fun w6 hb6 => ?_⟩
        · have t2 : ∀ i, Row (W i) w.heap.size 67 (v8 r) := fun i => r1.below (hb' i) r1.lt
          simp only [List.take_succ_cons, List.take_zero]
          refine q_load_row 67 (.tmp 1) (by rfl) (by kernel_rfl) w.heap.size (by rfl) 67 _ _ t2 Try.underlying67 rfl h67 ?_
          simp only [Act.put, List.setIfInBounds_toArray, List.set_cons_succ, List.set_cons_zero]
          go_big_quiet_step (fail)
          go_big_quiet_step ((go_at_call 32; exact (hrec _).mono (fun e w' ⟨he, hw⟩ => ⟨he, hc _ _ hw⟩)))
          exact wpQuiet_nil rfl
        · simp only [List.drop_succ_cons, List.drop_zero]
          have vb := hbel.trans (hb6.mono hbel.size)
          go_wp2
          go_ret
          exact ⟨rfl, vb⟩
end Go.Proofs.Ytmfcildkkeeneaa
