/- DiskStops returns true and turns no old memory, for any number and any bools. No condition. -/
import Derived.Test.YtmomljmjlknolaaArg
namespace Go.Proofs.Ytmomljmjlknolaa
open Go Go.RowKit
/-- A disk ahead of the i-th call, that is to stop at the n-th. -/
def Qd (n i : Int) (d : D) : Prop := d.room = 1000 ∧ (d.bytes.length : Int) ≤ i - 1 ∧ (if i ≤ n then d.left = n - (i - 1) ∧ d.dead = false ∧ d.ops = i - 1 else d.dead = true ∧ d.ops = n - 1)
def Ee (n i : Int) : Int := if i < n then 0 else 17
theorem qd_work {n i : Int} {d : D} (h1 : d.room = 1000) (h2 : (d.bytes.length : Int) ≤ i) (h3 : i ≤ n) (_h0 : 1 ≤ i) (h4 : d.left = n - (i - 1)) (h5 : d.dead = false) (h6 : d.ops = i - 1) : wErr d = Ee n i ∧ Qd n (i + 1) (dWork d) := by
  by_cases h : i < n
  · have hl : d.left ≠ 1 := by omega
    have hl0 : 0 < d.left := by omega
    refine ⟨by simp [wErr, Ee, hl, h], ?_⟩
    simp only [dWork, if_neg hl, if_pos hl0]
    refine ⟨h1, by simp only; omega, ?_⟩
    rw [if_pos (by omega)]
    exact ⟨by simp only; omega, h5, by simp only; omega⟩
  · have hl : d.left = 1 := by omega
    refine ⟨by simp [wErr, Ee, hl, h], ?_⟩
    simp only [dWork, if_pos hl]
    refine ⟨h1, by simp only; omega, ?_⟩
    rw [if_neg (by omega)]
    exact ⟨rfl, by simp only; omega⟩
theorem qd_app {n i : Int} {d : D} (h : Qd n i d) (h0 : 1 ≤ i) (hi : i ≤ 20) (x : Int) : aErr d [x] = Ee n i ∧ Qd n (i + 1) (dApp d [x]) := by
  obtain ⟨h1, h2, h3⟩ := h
  by_cases hn : i ≤ n
  · rw [if_pos hn] at h3
    obtain ⟨h4, h5, h6⟩ := h3
    have hf : ¬ ((([x] : List Int).length : Int) > d.room - d.bytes.length) := by rw [h1]; simp; omega
    simp only [aErr, dApp, h5, hf, if_false, Bool.false_eq_true]
    have := qd_work (n := n) (i := i) (d := { d with bytes := d.bytes ++ [x] }) h1 (by simp only [List.length_append, List.length_cons, List.length_nil]; omega) hn h0 h4 h5 h6
    rw [h5] at this
    exact this
  · rw [if_neg hn] at h3
    obtain ⟨h4, h5⟩ := h3
    simp only [aErr, dApp, h4, if_true]
    refine ⟨by rw [Ee, if_neg (by omega)], h1, by omega, ?_⟩
    rw [if_neg (by omega)]
    exact ⟨h4, h5⟩
theorem qd_sync {n i : Int} {d : D} (h : Qd n i d) (h0 : 1 ≤ i) : sErr d = Ee n i ∧ Qd n (i + 1) (dSync d) := by
  obtain ⟨h1, h2, h3⟩ := h
  by_cases hn : i ≤ n
  · rw [if_pos hn] at h3
    obtain ⟨h4, h5, h6⟩ := h3
    obtain ⟨k1, k2⟩ := qd_work (n := n) (i := i) (d := d) h1 (by omega) hn h0 h4 h5 h6
    simp only [sErr, dSync, h5, Bool.false_eq_true, if_false]
    refine ⟨k1, ?_⟩
    split
    · exact k2
    · exact k2
  · rw [if_neg hn] at h3
    obtain ⟨h4, h5⟩ := h3
    simp only [sErr, dSync, h4, if_true]
    refine ⟨by rw [Ee, if_neg (by omega)], h1, by omega, ?_⟩
    rw [if_neg (by omega)]
    exact ⟨h4, h5⟩
/-- Behind a crash all is well. -/
theorem qd_crash {n i : Int} {d : D} (hk : Ok d) (h : Qd n i d) (hi : i = 21) (hn : n ≤ 15) : (stay d 0 : Int) = 0 ∧ (dCrash d 0).dead = false ∧ (dCrash d 0).ops < 100 ∧ aErr (dCrash d 0) [] = 0 ∧ (dApp (dCrash d 0) []).ops < 101 ∧ sErr (dApp (dCrash d 0) []) = 0 := by
  obtain ⟨h1, h2, h3⟩ := h
  rw [if_neg (by omega)] at h3
  obtain ⟨h4, h5⟩ := h3
  have hf := hk.fits
  have hs : stay d 0 = 0 := by simp [stay]
  have hl : ¬ ((([] : List Int).length : Int) > (dCrash d 0).room - (dCrash d 0).bytes.length) := by
    have := (ok_crash hk 0).fits
    simp only [List.length_nil]
    omega
  have hw : dApp (dCrash d 0) [] = dWork { dCrash d 0 with bytes := (dCrash d 0).bytes ++ [] } := by
    unfold dApp
    rw [if_neg (by simp [dCrash]), if_neg hl]
  refine ⟨by rw [hs]; rfl, rfl, by show d.ops < 100; omega, ?_, ?_, ?_⟩
  · unfold aErr
    rw [if_neg (by simp [dCrash]), if_neg hl]
    simp [wErr, dCrash]
  · rw [hw]
    have := (work_ops { dCrash d 0 with bytes := (dCrash d 0).bytes ++ [] }).2
    exact Int.lt_of_le_of_lt this (by show d.ops + 1 < 101; omega)
  · rw [hw]
    simp [sErr, dWork, dCrash, wErr]

set_option maxRecDepth 20000 in
set_option maxHeartbeats 1000000 in
theorem stops_walk (n0 : Int) (bs : List Bool) (a : Option Addr) (cap : Nat) (w : World) (hI : Bools w a bs) (hl : bs.length ≤ 9223372036854775807) :
    Calls Try.prog 5 #[.int .i64 n0, .slice a bs.length cap] w fun e w' => e = .returned (.bool true) ∧ Below w.heap.size w w' := by
  have h0 := Int.emod_nonneg n0 (show (15 : Int) ≠ 0 by decide)
  have h1 := Int.emod_lt_of_pos n0 (show (0 : Int) < 15 by decide)
  have hw1 := fun w1 => within_any n0 15 w1 (by decide) (by decide)
  obtain ⟨q, hq⟩ : ∃ q : Int, n0 % 15 = q := ⟨_, rfl⟩
  rw [hq] at h0 h1 hw1
  clear hq
  have hnew := fun w1 hb => st_new 1000 w w1 hb (by decide)
  have hstop := fun w1 g (s : St w w1 g g (dNew 1000)) => st_stop s (1 + q) (by omega)
  have hq0 : Qd (1 + q) 1 { dNew 1000 with left := lmax (1 + q) } := by
    refine ⟨rfl, by simp [dNew], ?_⟩
    rw [if_pos (by omega)]
    refine ⟨?_, rfl, rfl⟩
    simp only [lmax]
    rw [if_neg (by omega)]; omega
  generalize ({ dNew 1000 with left := lmax (1 + q) } : D) = d0 at hq0 hstop
  go_enter Try.func5, Try.ntmps5
  go_wp2_with (first | (go_at_call 7; (with_reducible refine Calls.mono (known_any _) ?_); rintro e w1 ⟨rfl, hb1⟩) | (go_at_call 10; (with_reducible refine Calls.mono (hw1 _) ?_); rintro e w2 ⟨rfl, hw⟩; obtain rfl := hw.symm; clear hw) | (go_at_call 8; (with_reducible refine Calls.mono (hnew _ hb1) ?_); rintro e w3 ⟨g, rfl, s1⟩) | (go_at_call 15; (with_reducible refine Calls.mono (hstop _ _ s1) ?_); rintro e w4 ⟨rfl, s2, f2⟩))
  clear hnew hw1 hb1 hstop s1 f2
  go_loopw [7] (fun i wr => ∃ (j : Nat) (h : Nat) (d : D), i = .int .i64 j ∧ 1 ≤ j ∧ j ≤ 21 ∧ St w wr g h d ∧ Qd (1 + q) j d) (fun i _ => 21 - (intOf i).toNat)
  case atStart => exact ⟨1, g, d0, rfl, by omega, by omega, s2, hq0⟩
  case round =>
    obtain ⟨j, h, d, rfl, hj1, hj2, s, hQ⟩ := hrel
    clear s2 hq0
    have hops : d.ops < 100 := by
      obtain ⟨_, _, h3⟩ := hQ
      split at h3 <;> omega
    by_cases hlt : j < 21
    · have hwr : IntKind.u8.wrap (j : Int) = j := by rw [IntKind.wrap_u8]; omega
      have hlt20 : (j : Int) ≤ 20 := by omega
      obtain ⟨a1, a2⟩ := qd_app hQ (by omega) hlt20 (j : Int)
      obtain ⟨y1, y2⟩ := qd_sync hQ (by omega)
      by_cases hph : (j : Int) < 1 + q
      · have hE : Ee (1 + q) j = 0 := by rw [Ee, if_pos hph]
        have hpost : ∀ d' : D, Qd (1 + q) ((j : Int) + 1) d' → d'.dead = false ∧ d'.ops = (j : Int) := fun d' h => by
          obtain ⟨_, _, h3⟩ := h
          rw [if_pos (by omega)] at h3
          exact ⟨h3.2.1, by omega⟩
        have hmin : ¬ (1 + q - 1 < (j : Int)) := by omega
        rw [hE] at a1 y1
        have hap := fun (hw : World) (sa : St w hw g h d) b hb => st_append sa [(j : Int)] (some ⟨b, 0, none⟩) 1 1 rfl hb (fun h => by cases h) (show 1 ≤ 1099511627776 by decide) (by omega) _ _ a1 rfl
        have hsy := st_sync s (by omega) _ _ y1 rfl
        have hap2 := hap (wr.alloc (.cells #[.int .u8 (j : Int)] 5)) (s.alloc _) wr.heap.size (bytes_new wr [(j : Int)])
        have hdA := hpost _ a2
        have hdS := hpost _ y2
        generalize dApp d [(j : Int)] = dA at *
        generalize dSync d = dS at *
        clear hap a1 y1 hQ hpost hE
        by_cases hjb : j < bs.length
        · obtain ⟨b, off, rfl, hc⟩ := hI.below s.below (Nat.le_refl _) (by omega)
          have hcell := hc j hjb
          clear hc
          cases hb : bs.getD j false with
          | true =>
            rw [hb] at hcell
            go_wp2_with (first | (go_at_call 13; (with_reducible refine Calls.mono hsy ?_); rintro e w5 ⟨rfl, s5, f5⟩; have hdd := hdS) | (go_at_call 20; (with_reducible refine Calls.mono (st_dead s5 _ hdd.1) ?_); rintro e w6 ⟨rfl, hw⟩; obtain rfl := hw.symm; clear hw) | (go_at_call 21; (with_reducible refine Calls.mono (st_ops s5 _ hdd.2) ?_); rintro e w7 ⟨rfl, hw⟩; obtain rfl := hw.symm; clear hw))
            go_roundw
            case rel => exact ⟨j + 1, h, _, by go_num, by omega, by omega, s5, y2⟩
            case measure => simp [intOf]; omega
          | false =>
            rw [hb] at hcell
            go_wp2_with (first | (go_at_call 11; (with_reducible refine Calls.mono hap2 ?_); rintro e w5 ⟨rfl, h5, s5, f5⟩; have hdd := hdA) | (go_at_call 20; (with_reducible refine Calls.mono (st_dead s5 _ hdd.1) ?_); rintro e w6 ⟨rfl, hw⟩; obtain rfl := hw.symm; clear hw) | (go_at_call 21; (with_reducible refine Calls.mono (st_ops s5 _ hdd.2) ?_); rintro e w7 ⟨rfl, hw⟩; obtain rfl := hw.symm; clear hw))
            go_roundw
            case rel => exact ⟨j + 1, h5, _, by go_num, by omega, by omega, s5, a2⟩
            case measure => simp [intOf]; omega
        · have hjb' : decide ((j : Int) < bs.length) = false := by simp; omega
          go_wp2_with (first | (go_at_call 11; (with_reducible refine Calls.mono hap2 ?_); rintro e w5 ⟨rfl, h5, s5, f5⟩; have hdd := hdA) | (go_at_call 20; (with_reducible refine Calls.mono (st_dead s5 _ hdd.1) ?_); rintro e w6 ⟨rfl, hw⟩; obtain rfl := hw.symm; clear hw) | (go_at_call 21; (with_reducible refine Calls.mono (st_ops s5 _ hdd.2) ?_); rintro e w7 ⟨rfl, hw⟩; obtain rfl := hw.symm; clear hw))
          go_roundw
          case rel => exact ⟨j + 1, h5, _, by go_num, by omega, by omega, s5, a2⟩
          case measure => simp [intOf]; omega
      · have hE : Ee (1 + q) j = 17 := by rw [Ee, if_neg hph]
        have hpost : ∀ d' : D, Qd (1 + q) ((j : Int) + 1) d' → d'.dead = true ∧ d'.ops = 1 + q - 1 := fun d' h => by
          obtain ⟨_, _, h3⟩ := h
          rw [if_neg (by omega)] at h3
          exact ⟨h3.1, by omega⟩
        have hmin : 1 + q - 1 < (j : Int) := by omega
        rw [hE] at a1 y1
        have hap := fun (hw : World) (sa : St w hw g h d) b hb => st_append sa [(j : Int)] (some ⟨b, 0, none⟩) 1 1 rfl hb (fun h => by cases h) (show 1 ≤ 1099511627776 by decide) (by omega) _ _ a1 rfl
        have hsy := st_sync s (by omega) _ _ y1 rfl
        have hap2 := hap (wr.alloc (.cells #[.int .u8 (j : Int)] 5)) (s.alloc _) wr.heap.size (bytes_new wr [(j : Int)])
        have hdA := hpost _ a2
        have hdS := hpost _ y2
        generalize dApp d [(j : Int)] = dA at *
        generalize dSync d = dS at *
        clear hap a1 y1 hQ hpost hE
        by_cases hjb : j < bs.length
        · obtain ⟨b, off, rfl, hc⟩ := hI.below s.below (Nat.le_refl _) (by omega)
          have hcell := hc j hjb
          clear hc
          cases hb : bs.getD j false with
          | true =>
            rw [hb] at hcell
            go_wp2_with (first | (go_at_call 13; (with_reducible refine Calls.mono hsy ?_); rintro e w5 ⟨rfl, s5, f5⟩; have hdd := hdS) | (go_at_call 20; (with_reducible refine Calls.mono (st_dead s5 _ hdd.1) ?_); rintro e w6 ⟨rfl, hw⟩; obtain rfl := hw.symm; clear hw) | (go_at_call 21; (with_reducible refine Calls.mono (st_ops s5 _ hdd.2) ?_); rintro e w7 ⟨rfl, hw⟩; obtain rfl := hw.symm; clear hw))
            go_roundw
            case rel => exact ⟨j + 1, h, _, by go_num, by omega, by omega, s5, y2⟩
            case measure => simp [intOf]; omega
          | false =>
            rw [hb] at hcell
            go_wp2_with (first | (go_at_call 11; (with_reducible refine Calls.mono hap2 ?_); rintro e w5 ⟨rfl, h5, s5, f5⟩; have hdd := hdA) | (go_at_call 20; (with_reducible refine Calls.mono (st_dead s5 _ hdd.1) ?_); rintro e w6 ⟨rfl, hw⟩; obtain rfl := hw.symm; clear hw) | (go_at_call 21; (with_reducible refine Calls.mono (st_ops s5 _ hdd.2) ?_); rintro e w7 ⟨rfl, hw⟩; obtain rfl := hw.symm; clear hw))
            go_roundw
            case rel => exact ⟨j + 1, h5, _, by go_num, by omega, by omega, s5, a2⟩
            case measure => simp [intOf]; omega
        · have hjb' : decide ((j : Int) < bs.length) = false := by simp; omega
          go_wp2_with (first | (go_at_call 11; (with_reducible refine Calls.mono hap2 ?_); rintro e w5 ⟨rfl, h5, s5, f5⟩; have hdd := hdA) | (go_at_call 20; (with_reducible refine Calls.mono (st_dead s5 _ hdd.1) ?_); rintro e w6 ⟨rfl, hw⟩; obtain rfl := hw.symm; clear hw) | (go_at_call 21; (with_reducible refine Calls.mono (st_ops s5 _ hdd.2) ?_); rintro e w7 ⟨rfl, hw⟩; obtain rfl := hw.symm; clear hw))
          go_roundw
          case rel => exact ⟨j + 1, h5, _, by go_num, by omega, by omega, s5, a2⟩
          case measure => simp [intOf]; omega
    · obtain rfl : j = 21 := by omega
      obtain ⟨c1, c2, c3, c4, c5, c6⟩ := qd_crash s.ok hQ rfl (by omega)
      have hcr := st_crash s 0 _ _ c1 rfl
      have hap := fun w5 (s5 : St w w5 g h (dCrash d 0)) => st_append s5 [] none 0 0 rfl (Bytes.nil _ _) (fun _ => ⟨rfl, rfl⟩) (show 0 ≤ 1099511627776 by decide) (by omega) _ _ c4 rfl
      have hsy := fun w5 h5 (s5 : St w w5 g h5 (dApp (dCrash d 0) [])) => st_sync s5 (by omega) _ _ c6 rfl
      have hdd := fun w5 (s5 : St w w5 g h (dCrash d 0)) => st_dead s5 _ c2
      clear hQ c1 c2 c3 c4 c5 c6
      generalize dSync (dApp (dCrash d 0) []) = d3 at *
      generalize dApp (dCrash d 0) [] = d2 at *
      generalize dCrash d 0 = d1 at *
      go_wp2_with (first | (go_at_call 17; (with_reducible refine Calls.mono hcr ?_); rintro e w5 ⟨rfl, s5, f5⟩) | (go_at_call 20; (with_reducible refine Calls.mono (hdd _ s5) ?_); rintro e w6 ⟨rfl, hw⟩; obtain rfl := hw.symm; clear hw) | (go_at_call 11; (with_reducible refine Calls.mono (hap _ s5) ?_); rintro e w7 ⟨rfl, h7, s7, f7⟩) | (go_at_call 13; (with_reducible refine Calls.mono (hsy _ _ s7) ?_); rintro e w8 ⟨rfl, s8, f8⟩))
      go_ret
      exact ⟨rfl, s8.below⟩
end Go.Proofs.Ytmomljmjlknolaa
