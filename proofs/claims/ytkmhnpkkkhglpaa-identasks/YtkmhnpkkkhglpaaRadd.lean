/- The reference's Add: what it makes of an id and k, as a number; it turns no old memory. -/
import Derived.Test.YtkmhnpkkkhglpaaAdd
namespace Go.Proofs.Ytkmhnpkkkhglpaa
open Go.RowKit

set_option maxRecDepth 20000 in
set_option maxHeartbeats 1000000 in
theorem radd_any (a : List Int) (k : Nat) (w : World) (ha : Id32 a) (hk : k < 256) :
    Calls Try.prog 17 #[.agg (v8 a), .int .i64 k] w fun e w' => e = .returned (.tuple #[.agg (v8 (addL a k)), .int .i64 0]) ∧ Below w.heap.size w w' := by
  have b0 : Below w.heap.size w ((w.alloc (.cells (v8 a) 23)).alloc (.cells (v8 zero32) 23)) := ((Below.refl _ _).alloc (Nat.le_refl _) _).alloc (by simp) _
  have ra : Row ((w.alloc (.cells (v8 a) 23)).alloc (.cells (v8 zero32) 23)) w.heap.size 23 (v8 a) := (Row.new w 23 (v8 a)).alloc _
  have rz : Row ((w.alloc (.cells (v8 a) 23)).alloc (.cells (v8 zero32) 23)) (w.heap.size + 1) 23 (v8 zero32) := Row.newAt _ _ _ _ (by simp)
  have q1 : decide ((k : Int) < 0) = false := by simp
  have q2 : decide ((255 : Int) < (k : Int)) = false := by simp; omega
  obtain ⟨p, hp⟩ : ∃ p, p = 31 - k / 8 := ⟨_, rfl⟩
  have ep : (31 : Int) - (k : Int) / 8 = (p : Int) := by omega
  have hp32 : p < 32 := by omega
  have hlo := low_pow k
  have hw : wrap64 (2 ^ (k % 8)) = 2 ^ (k % 8) := IntWalk.wrap64_in _ (by omega)
  have hst := carry_step ha hp32 (c := 2 ^ (k % 8)) (s := gi a p + 2 ^ (k % 8)) rfl
  rw [show 31 - p = k / 8 by omega, ← two_pow] at hst
  have hst : Hid _ := show num (a.set p ((gi a p + 2 ^ (k % 8)) % 256)) + (gi a p + 2 ^ (k % 8)) / 256 * 256 ^ (32 - p) = num a + 2 ^ k from hst
  have gp := ha.2.gi p
  clear hp
  go_enter Try.func17, Try.ntmps17
  go_wp2
  change Code.wp _ _ _ _ ((w.alloc (.cells (v8 a) 23)).alloc (.cells (v8 zero32) 23))
  generalize (w.alloc (.cells (v8 a) 23)).alloc (.cells (v8 zero32) 23) = w0 at b0 ra rz ⊢
  have hv : w0.cell? ⟨w.heap.size, p, none⟩ = some (.int .u8 (gi a p)) := ra.cell8 (by rw [ha.1]; omega)
  refine wp_region_quiet_tail 7 (by kernel_rfl) (by kernel_rfl) ?_
  simp only [List.take_succ_cons, List.take_zero, List.drop_succ_cons, List.drop_zero]
  repeat (go_big_quiet_step (fail))
  refine wpQuiet_nil ?_
  rintro _ ⟨nq, rfl⟩
  have b1 := below_drewN b0 nq
  have ra1 := ra.drewN nq
  have rz1 := rz.drewN nq
  generalize w0.drewN nq = w1 at b1 ra1 rz1 ⊢
  clear hv b0 ra rz
  have hf : w1.frozen? ⟨w.heap.size, p, none⟩ = false := ra1.frozen
  have hv : w1.cell? ⟨w.heap.size, p, none⟩ = some (.int .u8 (gi a p)) := ra1.cell8 (by rw [ha.1]; omega)
  obtain ⟨t, ht⟩ : ∃ t : Int, t = 2 ^ (k % 8) := ⟨_, rfl⟩
  rw [← ht] at hlo hst ⊢
  clear hw ht
  go_wp2
  have r1 := ra1.set8 p ((gi a p + t) % 256)
  have r2 := rz1.setOther (a := ⟨w.heap.size, p, none⟩) (by simp) (.int .u8 ((gi a p + t) % 256))
  have b2 : Below w.heap.size w (w1.setCell ⟨w.heap.size, p, none⟩ (.int .u8 ((gi a p + t) % 256))) := b1.setCell (Nat.le_refl _) _
  generalize w1.setCell ⟨w.heap.size, p, none⟩ (.int .u8 ((gi a p + t) % 256)) = w2 at r1 r2 b2 ⊢
  clear hv hf ra1 rz1 b1
  go_loopw [6, 7] (fun i n wr => ∃ (m : Nat) (nv : Int) (l : List Int), m < 32 ∧ i = .int .i64 m ∧ n = .int .i64 nv ∧ 0 ≤ nv ∧ nv ≤ 511 ∧ Id32 l ∧ num l + nv / 256 * 256 ^ (32 - m) = num a + 2 ^ k ∧ Row wr w.heap.size 23 (v8 l) ∧ Row wr (w.heap.size + 1) 23 (v8 zero32) ∧ Below w.heap.size w wr) (fun i _ _ => (intOf i).toNat)
  case atStart => exact ⟨p, _, _, hp32, rfl, rfl, by omega, by omega, ha.set _ (by omega), hst.out, r1, r2, b2⟩
  case round =>
    obtain ⟨m, nv, l, hm, rfl, rfl, n0, n1, hl, hnum, r3, r4, hb⟩ := hrel
    clear r1 r2 b2 hst hlo gp ep hp32 hk q1 q2
    by_cases hgo : 255 < nv ∧ 0 < m
    · obtain ⟨hn, hm0⟩ := hgo
      obtain ⟨p', rfl⟩ : ∃ p, m = p + 1 := ⟨m - 1, by omega⟩
      have gp := hl.2.gi p'
      have hv : wr.cell? ⟨w.heap.size, p', none⟩ = some (.int .u8 (gi l p')) := r3.cell8 (by rw [hl.1]; omega)
      have hf : wr.frozen? ⟨w.heap.size, p', none⟩ = false := r3.frozen
      have hst := carry_step hl (p := p') (by omega) (c := 1) (s := gi l p' + 1) rfl
      rw [show nv / 256 = 1 by omega, show 32 - (p' + 1) = 31 - p' by omega] at hnum
      have hst : Hid _ := show num (l.set p' ((gi l p' + 1) % 256)) + (gi l p' + 1) / 256 * 256 ^ (32 - p') = num a + 2 ^ k from hst.trans hnum
      have e1 : (((p' + 1 : Nat) : Int) - 1) = (p' : Int) := by omega
      have g1 : decide ((255 : Int) < nv) = true := by simpa using hn
      have g2 : decide ((0 : Int) < ((p' + 1 : Nat) : Int)) = true := by simp
      clear hnum
      go_wp2
      go_roundw
      case rel => exact ⟨p', _, l.set p' ((gi l p' + 1) % 256), by omega, by go_num, rfl, by omega, by omega, hl.set _ (by omega), hst.out, r3.set8 p' _, r4.setOther (by simp) _, hb.setCell (Nat.le_refl _) _⟩
      case measure => simp [intOf]
    · have e : l = addL a k := by
        by_cases h1 : 255 < nv
        · obtain rfl : m = 0 := by omega
          exact addL_of hl (by simpa using hnum)
        · rw [show nv / 256 = 0 by omega, Int.zero_mul] at hnum
          exact addL_of (c := 0) hl (by rw [Int.zero_mul]; exact hnum)
      subst e
      clear hnum
      have sl := sz23 hl
      have hz : (v8 zero32).size = (v8 (addL a k)).size := by rw [v8_size, v8_size, hl.1, id_zero.1]
      by_cases h1 : 255 < nv
      · obtain rfl : m = 0 := by omega
        clear hgo
        have g1 : decide ((255 : Int) < nv) = true := by simpa using h1
        go_wp2_with (first
          | (refine wpList_load_row (by rfl) 23 (.tmp 2) (by rfl) w.heap.size (by rfl) 23 (v8 (addL a k)) (0, 0) _ r3 Try.underlying23 rfl sl ?_)
          | (refine store_row0 23 (.tmp 4) (.tmp 47) (by rfl) (by rfl) (by rfl) (w.heap.size + 1) (v8 (addL a k)) (by rfl) (by rfl) 23 _ r4 sl hz (v8_one _) ?_))
        exact bodyPost_ret (results_row_tmp Try.results17 _ _ (w.heap.size + 1) 23 (v8 (addL a k)) _ rfl (r4.setRow _) Try.underlying23 rfl sl) rfl ⟨rfl, below_setRow hb (by omega) _⟩
      · clear hgo
        have g1 : decide ((255 : Int) < nv) = false := by simpa using h1
        go_wp2_with (first
          | (refine wpList_load_row (by rfl) 23 (.tmp 2) (by rfl) w.heap.size (by rfl) 23 (v8 (addL a k)) (0, 0) _ r3 Try.underlying23 rfl sl ?_)
          | (refine store_row0 23 (.tmp 4) (.tmp 47) (by rfl) (by rfl) (by rfl) (w.heap.size + 1) (v8 (addL a k)) (by rfl) (by rfl) 23 _ r4 sl hz (v8_one _) ?_))
        exact bodyPost_ret (results_row_tmp Try.results17 _ _ (w.heap.size + 1) 23 (v8 (addL a k)) _ rfl (r4.setRow _) Try.underlying23 rfl sl) rfl ⟨rfl, below_setRow hb (by omega) _⟩
end Go.Proofs.Ytkmhnpkkkhglpaa
