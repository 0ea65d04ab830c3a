/- names.Check answers what the plain check of a name says, of every text, and turns no old memory. -/
import Derived.Test.YtgcffdnbihfghaaRows
import Derived.Test.YtgcffdnbihfghaaPfx
import Derived.Test.YtgcffdnbihfghaaRune
import Derived.WalkKit
import Derived.Lib.OthersKept
import Derived.Lib.IndexBytes
namespace Go.Proofs.Ytgcffdnbihfghaa
open Go.RowKit

set_option maxRecDepth 20000 in
theorem barred_any (r : Nat) (w : World) : Calls Try.prog 51 #[.int .i32 r] w fun e w' => e = .returned (.bool (bar r)) ∧ w' = w := by
  unfold bar
  have e1 : ((r : Int) == 47) = (r == 47) := by rw [Bool.eq_iff_iff]; simp; omega
  have e2 : decide ((r : Int) < 32) = decide (r < 32) := by rw [decide_eq_decide]; omega
  have e3 : ((r : Int) == 127) = (r == 127) := by rw [Bool.eq_iff_iff]; simp; omega
  generalize (r == 47) = p1 at *
  generalize decide (r < 32) = p2 at *
  generalize (r == 127) = p3 at *
  go_enter Try.func51, Try.ntmps51
  cases p1 <;> cases p2 <;> cases p3 <;> go_wp2 <;> go_ret <;> exact ⟨rfl, rfl⟩

set_option maxRecDepth 20000 in
theorem broken_any (l : List UInt8) (s : ByteArray) (hs : s.data.toList = l) (w : World) :
    Calls Try.prog 50 #[.int .i32 (decL l).1, .string s] w fun e w' => e = .returned (.bool (brk l)) ∧ w' = w := by
  rw [← brk_eq]
  have e1 : (((decL l).1 : Int) == 65533) = ((decL l).1 == 65533) := by rw [Bool.eq_iff_iff]; simp; omega
  generalize ((decL l).1 == 65533) = p1 at *
  go_enter Try.func50, Try.ntmps50
  cases p1
  · go_wp2; go_ret; exact ⟨rfl, rfl⟩
  · go_wp2_with (go_at_call 53; refine (Try.strings_HasPrefix _ _ _).mono ?_; rintro e w' ⟨rfl, rfl⟩)
    all_goals go_ret
    all_goals simp_all

theorem slice_from (s : ByteArray) (i : Nat) : (s.extract i s.size).data.toList = s.data.toList.drop i := by
  rw [Lib.extract_to_end]

theorem below_iter (w : World) (s : ByteArray) (p : Nat) : Below w.heap.size w (w.iter s p) := (Below.refl _ _).alloc (Nat.le_refl _) _

set_option maxRecDepth 20000 in
set_option maxHeartbeats 1000000 in
theorem check_any (s : ByteArray) (w : World) (hs : s.size ≤ 4611686018427387904) :
    Calls Try.prog 48 #[.string s] w fun e w' => e = .returned (.int .i64 (chk s.data.toList)) ∧ Below w.heap.size w w' := by
  have hl : s.data.toList.length = s.size := by simp
  have hd : dots s.data.toList = (s.toList == [] || s.toList == [46] || s.toList == [46, 46]) := by rw [ByteArray.toList_eq]; rfl
  have hc : chk s.data.toList = chkL s.size (s.data.toList.drop 0) (dots s.data.toList) 0 := by unfold chk; rw [hl]; rfl
  rw [hd] at hc
  generalize e1 : (s.toList == []) = p1 at *
  generalize e2 : (s.toList == [46]) = p2 at *
  generalize e3 : (s.toList == [46, 46]) = p3 at *
  go_enter Try.func48, Try.ntmps48
  cases p1 <;> cases p2 <;> cases p3
  all_goals
    go_wp2
    go_loopw [3, 4] (fun r b wr => ∃ (pos f n : Nat) (bd : Bool), r = .int .i64 n ∧ b = .bool bd ∧ wr = w.iter s pos ∧ n ≤ pos ∧ pos ≤ s.size ∧ s.size ≤ pos + f ∧ chkL f (s.data.toList.drop pos) bd n = chk s.data.toList) (fun _ _ wr => s.size - wr.iterPos w.heap.size)
    case atStart => exact ⟨0, s.size, 0, _, rfl, rfl, rfl, by omega, by omega, by omega, hc.symm⟩
    case round =>
      obtain ⟨pos, f, n, bd, rfl, rfl, rfl, hn, hp, hf, hck⟩ := hrel
      clear hc hd e1 e2 e3
      by_cases hlt : pos < s.size
      · have hnx := fun ty => run_next_any (P := Try.prog) w s pos ty hlt
        rw [decode_eq] at hnx
        have hne : s.data.toList.drop pos ≠ [] := fun h => by
          have := congrArg List.length h
          rw [List.length_drop, hl] at this
          simp at this; omega
        obtain ⟨g, rfl⟩ : ∃ g, f = g + 1 := ⟨f - 1, by omega⟩
        rw [chkL_step hne] at hck
        have hw1 := decL_pos (s.data.toList.drop pos)
        have hw2 := decL_wide _ hne
        rw [List.length_drop, hl] at hw2
        have hsl := slice_from s pos
        generalize hL : s.data.toList.drop pos = L at *
        generalize hB : brk L = br at *
        generalize hR : bar (decL L).1 = ba at *
        cases br <;> cases bd
        all_goals
          go_wp2_with (first | (go_at_call 50; refine (broken_any L _ hsl _).mono ?_; rintro e w' ⟨rfl, rfl⟩; rw [hB]) | (go_at_call 51; refine (barred_any _ _).mono ?_; rintro e w' ⟨rfl, rfl⟩; rw [hR]))
        all_goals first | (go_ret; exact ⟨by rw [← hck]; rfl, below_iter _ _ _⟩) | skip
        all_goals
          go_roundw
          case rel => exact ⟨pos + (decL L).2, g, n + 1, _, by go_num, rfl, rfl, by omega, by omega, by omega, by rw [← List.drop_drop, hL]; exact hck⟩
          case measure => simp; omega
      · have hnx := fun ty => run_next_end (P := Try.prog) w s pos ty hlt
        have he : s.data.toList.drop pos = [] := List.drop_eq_nil_of_le (by omega)
        rw [he, chkL_end] at hck
        clear hlt
        by_cases h12 : 12 < n
        · cases bd
          all_goals
            go_wp2
            go_ret
            exact ⟨by rw [← hck]; simp [endE, h12], below_iter _ _ _⟩
        · cases bd
          all_goals
            go_wp2
            go_ret
            exact ⟨by rw [← hck]; simp [endE, h12], below_iter _ _ _⟩
end Go.Proofs.Ytgcffdnbihfghaa
