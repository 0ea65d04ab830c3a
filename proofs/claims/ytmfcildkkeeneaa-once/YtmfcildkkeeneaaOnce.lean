/- LedgerOnce returns true and turns no old memory, for any numbers. No condition. -/
import Derived.Test.YtmfcildkkeeneaaOnceM
namespace Go.Proofs.Ytmfcildkkeeneaa
open Go Go.RowKit

set_option maxRecDepth 20000 in
set_option maxHeartbeats 2000000 in
theorem once_walk (ss ps : List Int) (a1 a2 : Option Addr) (c1 c2 : Nat) (w : World) (hI : Ints w a1 ss) (hJ : Ints w a2 ps) (hl1 : ss.length ≤ 9223372036854775807) (hl2 : ps.length ≤ 9223372036854775807) :
    Calls Try.prog 4 #[.slice a1 ss.length c1, .slice a2 ps.length c2] w fun e w' => e = .returned (.bool true) ∧ Below w.heap.size w w' := by
  have hnew := fun w1 hb => st_new 10000 w w1 hb (by decide)
  have hop := fun g w1 (s1 : St w w1 g g (dNew 10000)) => ls_open s1 (fun x hx => by cases hx) rfl 0 (grL_short (show 0 < 8 by decide))
  have hd0 := iv_new
  have hd1 : (dNew 10000).dead = false := rfl
  generalize dNew 10000 = d0 at *
  go_enter Try.func4, Try.ntmps4
  go_wp2_with (first | (go_at_call 7; (with_reducible refine Calls.mono (known_any _) ?_); rintro e w1 ⟨rfl, hb1⟩) | (go_at_call 9; (with_reducible refine Calls.mono (hnew _ hb1) ?_); rintro e w3 ⟨g, rfl, s1⟩) | (go_at_call 11; (with_reducible refine Calls.mono (hop _ _ s1) ?_); rintro e w4 ⟨a, rfl, s2, _, _⟩))
  clear hnew hb1 hop s1
  go_loopw [7, 9, 10] (fun l n i wr => ∃ (j : Nat) (d : D) (h a : Nat) (lL last : Int), l = .pointer (some ⟨a, 0, none⟩) ∧ n = .int .i64 last ∧ i = .int .i64 j ∧ j ≤ 30 ∧ Ls w wr g h a d lL ∧ Iv d lL last (10 * (j : Int)) ∧ d.dead = false) (fun _ _ i _ => 30 - (intOf i).toNat)
  case atStart => exact ⟨0, d0, g, a, 0, 0, rfl, rfl, rfl, by omega, s2, hd0, hd1⟩
  case round =>
    obtain ⟨j, d, h, b, lL, last, rfl, rfl, rfl, hj, s, iv, hdd⟩ := hrel
    clear s2 hd0 hd1
    by_cases hlt : j < ss.length
    · by_cases h30 : j < 30
      · obtain ⟨bb, off, rfl, hc⟩ := hI.below s.st.below (Nat.le_refl _) (by omega)
        have hcell := hc j hlt
        obtain ⟨k, hk, hk9⟩ : ∃ k : Nat, gi ss j % 9 = k ∧ k < 9 := ⟨(gi ss j % 9).toNat, by omega, by omega⟩
        have hw2 := fun w1 => within_any (gi ss j) 9 w1 (by decide) (by decide)
        rw [hk] at hw2
        clear hk hc
        generalize gi ss j = z at *
        have hst := ls_stop s (1 + (k : Int)) (by omega) _ rfl
        have iv1 := iv_stop iv (lmax (1 + (k : Int)))
        have hdd1 : ({ d with left := lmax (1 + (k : Int)) } : D).dead = false := hdd
        generalize ({ d with left := lmax (1 + (k : Int)) } : D) = d1 at *
        go_wp2_with (first | (go_at_call 8; (with_reducible refine Calls.mono (hw2 _) ?_); rintro e w2 ⟨rfl, hw⟩; obtain rfl := hw.symm; clear hw) | (go_at_call 15; (with_reducible refine Calls.mono hst ?_); rintro e w5 ⟨rfl, s5⟩))
        clear hst iv hdd s hw2 hcell
        go_loopw [9, 11] (fun n kk wq => ∃ (k2 : Nat) (d6 : D) (h6 : Nat) (lL6 last6 : Int), n = .int .i64 last6 ∧ kk = .int .i64 k2 ∧ k2 ≤ 10 ∧ Ls w wq g h6 b d6 lL6 ∧ Iv d6 lL6 last6 (10 * (j : Int) + (k2 : Int))) (fun _ kk _ => 10 - (intOf kk).toNat)
        case atStart => exact ⟨0, d1, h, lL, last, rfl, rfl, by omega, s5, by simpa using iv1⟩
        case round =>
          obtain ⟨k2, d6, h6, lL6, last6, rfl, rfl, hk2, s6, iv6⟩ := hrel
          clear s5 iv1 hdd1
          by_cases hk10 : k2 < 10
          · have hk10' : decide ((k2 : Int) < 10) = true := by simp; omega
            have hde6 := fun w1 (s1 : Ls w w1 g h6 b d6 lL6) => st_dead s1.st d6.dead rfl
            cases hdd6 : d6.dead with
            | false =>
              rw [hdd6] at hde6
              have ho6 := iv6.ops
              have hup := iv6.up
              have hnn := iv6.nn
              have hcp := iv6.cap
              rcases iv_next iv6 s6.bs hdd6 (by omega) with ⟨f1, f2, f3⟩ | ⟨f1, f2, f3⟩
              · have hn := ls_next s6 (by omega) 0 (lL6 + 1) (lL6 + 1) _ f1 rfl rfl rfl
                have e1 : 10 * (j : Int) + (k2 : Int) + 1 = 10 * (j : Int) + ((k2 + 1 : Nat) : Int) := by omega
                rw [e1] at f2
                generalize nD d6 lL6 = d8 at *
                have hle : decide (lL6 + 1 ≤ last6) = false := by simp; omega
                clear f1 iv6 e1
                go_wp2_with (first | (go_at_call 23; (with_reducible refine Calls.mono (hde6 _ s6) ?_); rintro e w2 ⟨rfl, hw⟩; obtain rfl := hw.symm; clear hw) | (go_at_call 13; (with_reducible refine Calls.mono hn ?_); rintro e w7 ⟨rfl, h7, s7⟩))
                go_roundw
                case rel => exact ⟨k2 + 1, d8, h7, lL6 + 1, lL6 + 1, rfl, by go_num, by omega, s7, f2⟩
                case measure => simp [intOf]; omega
              · have hn := ls_next s6 (by omega) 17 0 lL6 _ f1 rfl (by rw [if_neg (by decide)]) (by rw [if_neg (by decide)])
                have e1 : 10 * (j : Int) + (k2 : Int) + 1 = 10 * (j : Int) + ((k2 + 1 : Nat) : Int) := by omega
                rw [e1] at f2
                generalize nD d6 lL6 = d8 at *
                clear f1 iv6 e1
                go_wp2_with (first | (go_at_call 23; (with_reducible refine Calls.mono (hde6 _ s6) ?_); rintro e w2 ⟨rfl, hw⟩; obtain rfl := hw.symm; clear hw) | (go_at_call 13; (with_reducible refine Calls.mono hn ?_); rintro e w7 ⟨rfl, h7, s7⟩))
                go_roundw
                case rel => exact ⟨k2 + 1, d8, h7, lL6, last6, rfl, by go_num, by omega, s7, f2⟩
                case measure => simp [intOf]; omega
            | true =>
              rw [hdd6] at hde6
              by_cases hjp : j < ps.length
              · obtain ⟨b2, off2, rfl, hc2⟩ := hJ.below s6.st.below (Nat.le_refl _) (by omega)
                have hcell2 := hc2 j hjp
                clear hc2
                generalize gi ps j = p at *
                have hcr := ls_crash s6 p _ _ rfl rfl
                have iv7 := (iv_crash iv6 s6.bs p).mono (show 10 * (j : Int) + (k2 : Int) ≤ 10 * ((j + 1 : Nat) : Int) by omega)
                have hdd7 : (dCrash d6 p).dead = false := rfl
                obtain ⟨G, hG⟩ : ∃ G, grL (dCrash d6 p).bytes = G := ⟨_, rfl⟩
                rw [hG] at iv7
                generalize dCrash d6 p = d7 at *
                have hop7 := fun w1 (s1 : Ls w w1 g h6 b d7 lL6) => ls_open s1.st s1.bs hdd7 G hG
                have hle := iv7.up
                have hle' : decide (G < last6) = false := by simp; omega
                clear hG iv6
                go_wp2_with (first | (go_at_call 23; (with_reducible refine Calls.mono (hde6 _ s6) ?_); rintro e w2 ⟨rfl, hw⟩; obtain rfl := hw.symm; clear hw) | (go_at_call 17; (with_reducible refine Calls.mono hcr ?_); rintro e w7 ⟨rfl, s7⟩) | (go_at_call 11; (with_reducible refine Calls.mono (hop7 _ s7) ?_); rintro e w8 ⟨a8, rfl, s8, _, _⟩; have hla8 := ls_last s8) | (go_at_call 21; (with_reducible refine Calls.mono hla8 ?_); rintro e w9 ⟨rfl, s9, _⟩))
                go_roundw
                case rel => exact ⟨j + 1, d7, h6, a8, G, last6, rfl, rfl, by go_num, by omega, s9, iv7, hdd7⟩
                case measure => simp [intOf]; omega
              · have hjp' : decide ((j : Int) < ps.length) = false := by simp; omega
                have hcr := ls_crash s6 0 _ _ rfl rfl
                have iv7 := (iv_crash iv6 s6.bs 0).mono (show 10 * (j : Int) + (k2 : Int) ≤ 10 * ((j + 1 : Nat) : Int) by omega)
                have hdd7 : (dCrash d6 0).dead = false := rfl
                obtain ⟨G, hG⟩ : ∃ G, grL (dCrash d6 0).bytes = G := ⟨_, rfl⟩
                rw [hG] at iv7
                generalize dCrash d6 0 = d7 at *
                have hop7 := fun w1 (s1 : Ls w w1 g h6 b d7 lL6) => ls_open s1.st s1.bs hdd7 G hG
                have hle := iv7.up
                have hle' : decide (G < last6) = false := by simp; omega
                clear hG iv6
                go_wp2_with (first | (go_at_call 23; (with_reducible refine Calls.mono (hde6 _ s6) ?_); rintro e w2 ⟨rfl, hw⟩; obtain rfl := hw.symm; clear hw) | (go_at_call 17; (with_reducible refine Calls.mono hcr ?_); rintro e w7 ⟨rfl, s7⟩) | (go_at_call 11; (with_reducible refine Calls.mono (hop7 _ s7) ?_); rintro e w8 ⟨a8, rfl, s8, _, _⟩; have hla8 := ls_last s8) | (go_at_call 21; (with_reducible refine Calls.mono hla8 ?_); rintro e w9 ⟨rfl, s9, _⟩))
                go_roundw
                case rel => exact ⟨j + 1, d7, h6, a8, G, last6, rfl, rfl, by go_num, by omega, s9, iv7, hdd7⟩
                case measure => simp [intOf]; omega
          · obtain rfl : k2 = 10 := by omega
            have hk10' : decide (((10 : Nat) : Int) < 10) = false := by decide
            by_cases hjp : j < ps.length
            · obtain ⟨b2, off2, rfl, hc2⟩ := hJ.below s6.st.below (Nat.le_refl _) (by omega)
              have hcell2 := hc2 j hjp
              clear hc2
              generalize gi ps j = p at *
              have hcr := ls_crash s6 p _ _ rfl rfl
              have iv7 := (iv_crash iv6 s6.bs p).mono (show 10 * (j : Int) + ((10 : Nat) : Int) ≤ 10 * ((j + 1 : Nat) : Int) by omega)
              have hdd7 : (dCrash d6 p).dead = false := rfl
              obtain ⟨G, hG⟩ : ∃ G, grL (dCrash d6 p).bytes = G := ⟨_, rfl⟩
              rw [hG] at iv7
              generalize dCrash d6 p = d7 at *
              have hop7 := fun w1 (s1 : Ls w w1 g h6 b d7 lL6) => ls_open s1.st s1.bs hdd7 G hG
              have hle := iv7.up
              have hle' : decide (G < last6) = false := by simp; omega
              clear hG iv6
              go_wp2_with (first | (go_at_call 17; (with_reducible refine Calls.mono hcr ?_); rintro e w7 ⟨rfl, s7⟩) | (go_at_call 11; (with_reducible refine Calls.mono (hop7 _ s7) ?_); rintro e w8 ⟨a8, rfl, s8, _, _⟩; have hla8 := ls_last s8) | (go_at_call 21; (with_reducible refine Calls.mono hla8 ?_); rintro e w9 ⟨rfl, s9, _⟩))
              go_roundw
              case rel => exact ⟨j + 1, d7, h6, a8, G, last6, rfl, rfl, by go_num, by omega, s9, iv7, hdd7⟩
              case measure => simp [intOf]; omega
            · have hjp' : decide ((j : Int) < ps.length) = false := by simp; omega
              have hcr := ls_crash s6 0 _ _ rfl rfl
              have iv7 := (iv_crash iv6 s6.bs 0).mono (show 10 * (j : Int) + ((10 : Nat) : Int) ≤ 10 * ((j + 1 : Nat) : Int) by omega)
              have hdd7 : (dCrash d6 0).dead = false := rfl
              obtain ⟨G, hG⟩ : ∃ G, grL (dCrash d6 0).bytes = G := ⟨_, rfl⟩
              rw [hG] at iv7
              generalize dCrash d6 0 = d7 at *
              have hop7 := fun w1 (s1 : Ls w w1 g h6 b d7 lL6) => ls_open s1.st s1.bs hdd7 G hG
              have hle := iv7.up
              have hle' : decide (G < last6) = false := by simp; omega
              clear hG iv6
              go_wp2_with (first | (go_at_call 17; (with_reducible refine Calls.mono hcr ?_); rintro e w7 ⟨rfl, s7⟩) | (go_at_call 11; (with_reducible refine Calls.mono (hop7 _ s7) ?_); rintro e w8 ⟨a8, rfl, s8, _, _⟩; have hla8 := ls_last s8) | (go_at_call 21; (with_reducible refine Calls.mono hla8 ?_); rintro e w9 ⟨rfl, s9, _⟩))
              go_roundw
              case rel => exact ⟨j + 1, d7, h6, a8, G, last6, rfl, rfl, by go_num, by omega, s9, iv7, hdd7⟩
              case measure => simp [intOf]; omega
      · have hlt' : decide ((j : Int) < ss.length) = true := by simp; omega
        have h30' : decide ((j : Int) < 30) = false := by simp; omega
        go_wp2
        go_ret
        exact ⟨rfl, s.st.below⟩
    · have hlt' : decide ((j : Int) < ss.length) = false := by simp; omega
      go_wp2
      go_ret
      exact ⟨rfl, s.st.below⟩
end Go.Proofs.Ytmfcildkkeeneaa
