/- NamesChecks returns true and turns no old memory, for any texts and numbers, where MaxLen holds some number. -/
import Derived.Test.YtkehpgegghhfpaaDoorKnown
import Derived.Test.YtkehpgegghhfpaaDoorName
import Derived.Test.YtkehpgegghhfpaaDoorMild
namespace Go.Proofs.YtkehpgegghhfpaaDoor
open Go.RowKit

set_option maxRecDepth 20000 in
set_option maxHeartbeats 1000000 in
theorem checks_early (s piece : ByteArray) (p : Option Addr) (l c : Nat) (at' : Int) (w : World) (hm : MaxOk w) (h : 500 < s.size ∨ 100 < piece.size) :
    Calls Tryd.prog 3 #[.string s, .slice p l c, .string piece, .int .i64 at'] w fun e w' => e = .returned (.bool true) ∧ Below w.heap.size w w' := by
  by_cases h5 : 500 < s.size
  · have q1 : decide ((500 : Int) < (s.size : Int)) = true := by simp; omega
    clear h
    go_enter Tryd.func3, Tryd.ntmps3
    go_wp2_with (first | (go_at_call 8; (with_reducible refine Calls.mono (known_any _ hm) ?_); rintro e w1 ⟨rfl, hb1⟩))
    go_ret
    exact ⟨rfl, hb1⟩
  · have q1 : decide ((500 : Int) < (s.size : Int)) = false := by simp; omega
    have q2 : decide ((100 : Int) < (piece.size : Int)) = true := by simp; omega
    clear h
    go_enter Tryd.func3, Tryd.ntmps3
    go_wp2_with (first | (go_at_call 8; (with_reducible refine Calls.mono (known_any _ hm) ?_); rintro e w1 ⟨rfl, hb1⟩))
    go_ret
    exact ⟨rfl, hb1⟩

set_option maxRecDepth 20000 in
set_option maxHeartbeats 1000000 in
theorem checks_any (s piece : ByteArray) (zs : List Int) (p : Option Addr) (c : Nat) (at' : Int) (w : World) (hm : MaxOk w) (hz : Ints w p zs) (hl : zs.length ≤ 9223372036854775807) :
    Calls Tryd.prog 3 #[.string s, .slice p zs.length c, .string piece, .int .i64 at'] w fun e w' => e = .returned (.bool true) ∧ Below w.heap.size w w' := by
  by_cases h5 : 500 < s.size ∨ 100 < piece.size
  · exact checks_early s piece p zs.length c at' w hm h5
  have q1 : decide ((500 : Int) < (s.size : Int)) = false := by simp; omega
  have q2 : decide ((100 : Int) < (piece.size : Int)) = false := by simp; omega
  have hs5 : s.size ≤ 500 := by omega
  have hp5 : piece.size ≤ 100 := by omega
  clear h5
  have hname := fun w1 h => name_any zs p c w1 h hl
  have hns := nm_size zs
  have hnc := nm_chk zs
  rw [← nm_data] at hnc
  generalize nm zs = N at *
  have k0 := Int.emod_nonneg at' (show ((N.size : Int) + 1) ≠ 0 by omega)
  have k1 := Int.emod_lt_of_pos at' (show (0 : Int) < (N.size : Int) + 1 by omega)
  obtain ⟨k, hk⟩ : ∃ k : Nat, at' % ((N.size : Int) + 1) = k := ⟨(at' % ((N.size : Int) + 1)).toNat, by omega⟩
  have hw10 := fun w1 => within_any at' ((N.size : Int) + 1) w1 (by omega) (by omega)
  rw [hk] at hw10 k0 k1
  have hkn : k ≤ N.size := by omega
  have c1 := fun w1 => check_any s w1 (by omega)
  have c2 := fun w1 => rcheck_any s w1 (by omega)
  have c3 := fun w1 => check_any N w1 (by omega)
  rw [hnc] at c3
  have ht : (N.extract 0 k ++ piece ++ N.extract k N.size).size ≤ 300 := by
    rw [ByteArray.size_append, ByteArray.size_append, ByteArray.size_extract, ByteArray.size_extract]; omega
  have c4 := fun w1 => check_any (N.extract 0 k ++ piece ++ N.extract k N.size) w1 (by omega)
  have c5 := fun w1 => rcheck_any (N.extract 0 k ++ piece ++ N.extract k N.size) w1 (by omega)
  generalize chk s.data.toList = C1 at *
  generalize chk (N.extract 0 k ++ piece ++ N.extract k N.size).data.toList = C2 at *
  clear hk hnc k0 k1
  go_enter Tryd.func3, Tryd.ntmps3
  go_wp2_with (first | (go_at_call 8; (with_reducible refine Calls.mono (known_any _ hm) ?_); rintro e w1 ⟨rfl, hb1⟩; have hz1 := hz.below hb1 (Nat.le_refl _)) | (go_at_call 9; (with_reducible refine Calls.mono (hname _ hz1) ?_); rintro e w2 ⟨rfl, hb2⟩; have hB := hb1.trans (hb2.mono hb1.size)) | (go_at_call 10; (with_reducible refine Calls.mono (hw10 _) ?_); rintro e w3 ⟨rfl, hw⟩; obtain rfl := hw.symm; clear hw))
  refine wp_region_quiet_tail 9 (by kernel_rfl) (by kernel_rfl) ?_
  simp only [List.take_succ_cons, List.take_zero, List.drop_succ_cons, List.drop_zero]
  repeat (go_big_quiet_step (fail))
  refine wpQuiet_nil ?_
  rintro _ ⟨nq, rfl⟩
  have hB := below_drewN hB nq
  go_wp2_with (first | (go_at_call 11; (with_reducible refine Calls.mono (c1 _) ?_); rintro e w3 ⟨rfl, hb3⟩; have hB := hB.trans (hb3.mono hB.size)) | (go_at_call 12; (with_reducible refine Calls.mono (c2 _) ?_); rintro e w3 ⟨rfl, hw⟩; obtain rfl := hw.symm; clear hw) | (go_at_call 11; (with_reducible refine Calls.mono (c3 _) ?_); rintro e w3 ⟨rfl, hb3⟩; have hB := hB.trans (hb3.mono hB.size)) | (go_at_call 11; (with_reducible refine Calls.mono (c4 _) ?_); rintro e w3 ⟨rfl, hb3⟩; have hB := hB.trans (hb3.mono hB.size)) | (go_at_call 12; (with_reducible refine Calls.mono (c5 _) ?_); rintro e w3 ⟨rfl, hw⟩; obtain rfl := hw.symm; clear hw))
  go_ret
  exact ⟨rfl, hB⟩
end Go.Proofs.YtkehpgegghhfpaaDoor
