/- LedgerFull returns true and turns no old memory, for any number. No condition. -/
import Derived.Test.YtmfcildkkeeneaaLSt
namespace Go.Proofs.Ytmfcildkkeeneaa
open Go Go.RowKit

/-- A step of the law: i - 1 rounds lie behind. -/
theorem full_step {d : D} {i k r : Int} (hdd : d.dead = false) (hl : d.left = 0) (hr : d.room = r) (hr1 : 1 ≤ r ∧ r ≤ 100) (hb : (d.bytes.length : Int) = 8 * k) (hk : k = if i - 1 ≤ r / 8 then i - 1 else r / 8) :
    (8 * i ≤ r ∧ nE d k = 0 ∧ k = i - 1 ∧ (nD d k).dead = false ∧ (nD d k).left = 0 ∧ (nD d k).room = r ∧ ((nD d k).bytes.length : Int) = 8 * i ∧ (nD d k).ops = d.ops + 2) ∨ (¬ 8 * i ≤ r ∧ nE d k = 16 ∧ nD d k = d ∧ k = r / 8) := by
  have hlk : lackN d.bytes.length = 0 := by unfold lackN; omega
  have hm : k ≠ 4294967295 := by split at hk <;> omega
  by_cases h8 : 8 * i ≤ r
  · have hk1 : k = i - 1 := by rw [hk, if_pos (by omega)]
    obtain ⟨h1, h2⟩ := next_well hdd hl hm (by rw [hlk]; omega)
    refine .inl ⟨h8, h1, hk1, ?_⟩
    rw [h2]
    refine ⟨hdd, hl, hr, ?_, rfl⟩
    show ((padL d.bytes ++ recL (k + 1)).length : Int) = 8 * i
    rw [List.length_append, padL_len, recL_len]; omega
  · have hk1 : k = r / 8 := by split at hk <;> omega
    obtain ⟨h1, h2⟩ := next_full hdd hm (by rw [hlk]; omega)
    exact .inr ⟨h8, h1, h2, hk1⟩

set_option maxRecDepth 20000 in
set_option maxHeartbeats 1000000 in
theorem full_walk (room : Int) (w : World) :
    Calls Try.prog 6 #[.int .i64 room] w fun e w' => e = .returned (.bool true) ∧ Below w.heap.size w w' := by
  have h0 := Int.emod_nonneg room (show (100 : Int) ≠ 0 by decide)
  have h1 := Int.emod_lt_of_pos room (show (0 : Int) < 100 by decide)
  have hw1 := fun w1 => within_any room 100 w1 (by decide) (by decide)
  obtain ⟨q, hq⟩ : ∃ q : Int, room % 100 = q := ⟨_, rfl⟩
  rw [hq] at h0 h1 hw1
  clear hq
  have hnew := fun w1 hb => st_new (1 + q) w w1 hb (by omega)
  have hr1 : 1 ≤ 1 + q ∧ 1 + q ≤ 100 := by omega
  have hop := fun g w1 (s1 : St w w1 g g (dNew (1 + q))) => ls_open s1 (fun x hx => by cases hx) rfl 0 (grL_short (show 0 < 8 by decide))
  have hd0 : (dNew (1 + q)).dead = false ∧ (dNew (1 + q)).left = 0 ∧ (dNew (1 + q)).room = 1 + q ∧ ((dNew (1 + q)).bytes.length : Int) = 8 * 0 ∧ (dNew (1 + q)).ops = 0 := ⟨rfl, rfl, rfl, rfl, rfl⟩
  generalize dNew (1 + q) = d0 at *
  go_enter Try.func6, Try.ntmps6
  go_wp2_with (first | (go_at_call 7; (with_reducible refine Calls.mono (known_any _) ?_); rintro e w1 ⟨rfl, hb1⟩) | (go_at_call 8; (with_reducible refine Calls.mono (hw1 _) ?_); rintro e w2 ⟨rfl, hw⟩; obtain rfl := hw.symm; clear hw) | (go_at_call 9; (with_reducible refine Calls.mono (hnew _ hb1) ?_); rintro e w3 ⟨g, rfl, s1⟩) | (go_at_call 11; (with_reducible refine Calls.mono (hop _ _ s1) ?_); rintro e w4 ⟨a, rfl, s2, _, _⟩))
  clear hnew hw1 hb1 hop s1
  go_loopw [7] (fun i wr => ∃ (j : Nat) (k : Int) (d : D) (h : Nat), i = .int .i64 j ∧ (1 ≤ j ∧ j ≤ 16) ∧ k = (if (j : Int) - 1 ≤ (1 + q) / 8 then (j : Int) - 1 else (1 + q) / 8) ∧ Ls w wr g h a d k ∧ d.dead = false ∧ d.left = 0 ∧ d.room = 1 + q ∧ (d.bytes.length : Int) = 8 * k ∧ (0 ≤ d.ops ∧ d.ops ≤ 2 * (j : Int))) (fun i _ => 16 - (intOf i).toNat)
  case atStart => exact ⟨1, 0, d0, g, rfl, by omega, by rw [if_pos (by omega)]; rfl, s2, hd0.1, hd0.2.1, hd0.2.2.1, hd0.2.2.2.1, by rw [hd0.2.2.2.2]; omega⟩
  case round =>
    obtain ⟨j, k, d, h, rfl, hj, hk, s, e1, e2, e3, e4, e5⟩ := hrel
    clear s2 hd0
    by_cases hlt : (j : Int) ≤ 15
    · have hst := full_step e1 e2 e3 hr1 e4 hk
      rcases hst with ⟨f1, f2, f3, f4, f5, f6, f7, f8⟩ | ⟨f1, f2, f3, f4⟩
      · have hn := ls_next s (by omega) 0 (k + 1) (k + 1) _ f2 rfl rfl rfl
        have hj1 : k + 1 = (j : Int) := by omega
        rw [hj1] at hn
        generalize nD d k = d2 at *
        have hle : decide (8 * (j : Int) ≤ 1 + q) = true := by simp; omega
        clear hk e4 f3 hj1 f2
        go_wp2_with (first | (go_at_call 13; (with_reducible refine Calls.mono hn ?_); rintro e w5 ⟨rfl, h5, s5⟩))
        go_roundw
        case rel => exact ⟨j + 1, j, d2, h5, by go_num, by omega, by rw [if_pos (by omega)]; omega, s5, f4, f5, f6, f7, by omega⟩
        case measure => simp [intOf]; omega
      · have hn := ls_next s (by omega) 16 0 k _ f2 f3 (by rw [if_neg (by decide)]) (by rw [if_neg (by decide)])
        have hla := fun w1 h1 (s1 : Ls w w1 g h1 a d k) => ls_last s1
        have hle : decide (8 * (j : Int) ≤ 1 + q) = false := by simp; omega
        rw [f4] at hn hla
        clear f2 f3
        go_wp2_with (first | (go_at_call 13; (with_reducible refine Calls.mono hn ?_); rintro e w5 ⟨rfl, h5, s5⟩) | (go_at_call 21; (with_reducible refine Calls.mono (hla _ _ s5) ?_); rintro e w6 ⟨rfl, s6, hb6⟩))
        go_roundw
        case rel => exact ⟨j + 1, (1 + q) / 8, d, h5, by go_num, by omega, by omega, s6, e1, e2, e3, by omega, by omega⟩
        case measure => simp [intOf]; omega
    · go_wp2
      go_ret
      exact ⟨rfl, s.st.below⟩
end Go.Proofs.Ytmfcildkkeeneaa
