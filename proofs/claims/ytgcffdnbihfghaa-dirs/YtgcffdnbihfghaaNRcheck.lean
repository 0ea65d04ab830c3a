/- The reference's Check answers what the plain check of a name says, of every text, and turns nothing. -/
import Derived.Test.YtgcffdnbihfghaaNOne
namespace Go.Proofs.Ytgcffdnbihfghaa
open Go.RowKit

set_option maxRecDepth 20000 in
set_option maxHeartbeats 1000000 in
theorem rcheck_any (s : ByteArray) (w : World) (hs : s.size ≤ 4611686018427387904) :
    Calls Try.prog 49 #[.string s] w fun e w' => e = .returned (.int .i64 (chk s.data.toList)) ∧ w' = w := by
  have hl : s.data.toList.length = s.size := by simp
  have hd : dots s.data.toList = (s.toList == [] || s.toList == [46] || s.toList == [46, 46]) := by rw [ByteArray.toList_eq]; rfl
  have hc : chk s.data.toList = chkL s.size (s.data.toList.drop 0) (dots s.data.toList) 0 := by unfold chk; rw [hl]; rfl
  rw [hd] at hc
  generalize e1 : (s.toList == []) = p1 at *
  generalize e2 : (s.toList == [46]) = p2 at *
  generalize e3 : (s.toList == [46, 46]) = p3 at *
  go_enter Try.func49, Try.ntmps49
  cases p1 <;> cases p2 <;> cases p3
  all_goals
    go_wp2
    go_loop [3, 4, 5] (fun r b i => ∃ (pos f n : Nat) (bd : Bool), r = .int .i64 n ∧ b = .bool bd ∧ i = .int .i64 pos ∧ n ≤ pos ∧ pos ≤ s.size ∧ s.size ≤ pos + f ∧ chkL f (s.data.toList.drop pos) bd n = chk s.data.toList) (fun _ _ i => s.size - (intOf i).toNat)
    case atStart => exact ⟨0, s.size, 0, _, rfl, rfl, rfl, by omega, by omega, by omega, hc.symm⟩
    case round =>
      obtain ⟨pos, f, n, bd, rfl, rfl, rfl, hn, hp, hf, hck⟩ := hrel
      clear hc hd e1 e2 e3
      by_cases hlt : pos < s.size
      · have hne : s.data.toList.drop pos ≠ [] := fun h => by
          have := congrArg List.length h
          rw [List.length_drop, hl] at this
          simp at this; omega
        obtain ⟨g, rfl⟩ : ∃ g, f = g + 1 := ⟨f - 1, by omega⟩
        rw [chkL_step hne] at hck
        have hw1 := decL_pos (s.data.toList.drop pos)
        have hw2 := decL_wide _ hne
        rw [List.length_drop, hl] at hw2
        have hone := fun w => one_any s pos w hlt hs
        generalize hL : s.data.toList.drop pos = L at *
        generalize hB : brk L = br at *
        cases br
        · rw [oneL_of hB] at hone
          have e1 : (((decL L).1 : Int) == 47) = ((decL L).1 == 47) := by rw [Bool.eq_iff_iff]; simp; omega
          have e2 : decide (((decL L).1 : Int) < 32) = decide ((decL L).1 < 32) := by rw [decide_eq_decide]; omega
          have e3 : (((decL L).1 : Int) == 127) = ((decL L).1 == 127) := by rw [Bool.eq_iff_iff]; simp; omega
          have e4 : (((decL L).2 : Int) == 0) = false := by simp; omega
          unfold bar at hck
          generalize ((decL L).1 == 47) = a1 at *
          generalize decide ((decL L).1 < 32) = a2 at *
          generalize ((decL L).1 == 127) = a3 at *
          generalize (decL L).1 = r at *
          generalize (decL L).2 = wd at *
          cases bd <;> cases a1 <;> cases a2 <;> cases a3
          all_goals
            go_wp2_with (go_at_call 52; refine (hone _).mono ?_; rintro e w' ⟨rfl, rfl⟩)
            go_round
            case rel => exact ⟨pos + wd, g, n + 1, _, by go_num, rfl, by go_num, by omega, by omega, by omega, by rw [← List.drop_drop, hL]; exact hck⟩
            case measure => simp [intOf]; omega
        · rw [show oneL L = (0, 0) by simp [oneL, hB]] at hone
          go_wp2_with (go_at_call 52; refine (hone _).mono ?_; rintro e w' ⟨rfl, rfl⟩)
          go_ret
          exact ⟨by rw [← hck]; rfl, rfl⟩
      · have he : s.data.toList.drop pos = [] := List.drop_eq_nil_of_le (by omega)
        rw [he, chkL_end] at hck
        obtain rfl : pos = s.size := by omega
        clear hlt hf
        by_cases h12 : 12 < n
        · cases bd
          all_goals
            go_wp2
            go_ret
            exact ⟨by rw [← hck]; simp [endE, h12], rfl⟩
        · cases bd
          all_goals
            go_wp2
            go_ret
            exact ⟨by rw [← hck]; simp [endE, h12], rfl⟩
end Go.Proofs.Ytgcffdnbihfghaa
