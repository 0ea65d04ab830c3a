/- DiskPlays returns true and turns no old memory, for any number and any calls. No condition. -/
import Derived.Test.YtmomljmjlknolaaInv
import Derived.Deep.CutBlock
import Derived.Deep.CutRange
import Derived.Outline
namespace Go.Proofs.Ytmomljmjlknolaa
open Go Go.RowKit
set_option maxRecDepth 20000 in
set_option maxHeartbeats 1000000 in
theorem plays_bad (room : Int) (n c : Nat) (a : Option Addr) (w : World) (hr : ¬ (1 ≤ room ∧ room ≤ 16777216)) :
    Calls Try.prog 3 #[.int .i64 room, .slice a n c] w fun e w' => e = .returned (.bool true) ∧ Below w.heap.size w w' := by
  have e1 := fun w1 => new_bad room w1 hr
  have e2 := fun w1 => rnew_bad room w1 hr
  clear hr
  go_enter Try.func3, Try.ntmps3
  go_wp2_with (first | (go_at_call 7; (with_reducible refine Calls.mono (known_any _) ?_); rintro e w1 ⟨rfl, hb1⟩) | (go_at_call 8; (with_reducible refine Calls.mono (e1 _) ?_); rintro e w2 ⟨rfl, hw⟩; obtain rfl := hw.symm; clear hw) | (go_at_call 9; (with_reducible refine Calls.mono (e2 _) ?_); rintro e w2 ⟨rfl, hw⟩; obtain rfl := hw.symm; clear hw))
  go_loop [9] (fun i => i = .int .i64 0) (fun _ => 0)
  case atStart => rfl
  case round =>
    subst hrel
    go_wp2
    go_ret
    exact ⟨rfl, hb1⟩
set_option maxRecDepth 20000 in
set_option maxHeartbeats 8000000 in
theorem plays_walk (room : Int) (cs : List Cl) (a : Option Addr) (cap : Nat) (w : World) (hr : 1 ≤ room ∧ room ≤ 16777216) (hC : Clls w a cs) (hl : cs.length ≤ 9223372036854775807) :
    Calls Try.prog 3 #[.int .i64 room, .slice a cs.length cap] w fun e w' => e = .returned (.bool true) ∧ Below w.heap.size w w' := by
  have e1 := fun w1 => new_any room w1 hr
  have e2 := fun w1 => rnew_any room w1 hr
  go_enter Try.func3, Try.ntmps3
  go_wp2_with (first | (go_at_call 7; (with_reducible refine Calls.mono (known_any _) ?_); rintro e w1 ⟨rfl, hb1⟩) | (go_at_call 8; (with_reducible refine Calls.mono (e1 _) ?_); rintro e w2 ⟨rfl, hD2, hb2⟩) | (go_at_call 9; (with_reducible refine Calls.mono (e2 _) ?_); rintro e w3 ⟨rfl, hD3, hb3⟩))
  have l2 := hD2.lt.1
  have t0 : Two w w3 w1.heap.size w1.heap.size w2.heap.size w2.heap.size (dNew room) (dNew room) := by
    have s1 := hb1.size
    have s2 := hb2.size
    exact ⟨hD2.fr (Fr.of_below (l := []) hb3) (by simp) (by simp), hD3, (hb1.trans (hb2.mono s1)).trans (hb3.mono (by omega)), s1, s1, by omega, by omega, by omega, by omega, by omega, by omega⟩
  generalize w1.heap.size = g at *
  generalize w2.heap.size = g2 at *
  clear hb1 hb2 hb3 hD2 hD3 e1 e2
  go_loopw [9] (fun i wr => ∃ (j h h2 : Nat) (d r : D), i = .int .i64 j ∧ j ≤ 100 ∧ Two w wr g h g2 h2 d r ∧ Ok d ∧ Sim d r ∧ d.ops ≤ j) (fun i _ => 100 - (intOf i).toNat)
  case atStart => exact ⟨0, g, g2, dNew room, dNew room, rfl, by omega, t0, ok_new hr, sim_new room, by show (0 : Int) ≤ _; decide⟩
  case round =>
    obtain ⟨j, h, h2, d, r, rfl, hj, t, hk, hs, hops⟩ := hrel
    clear t0
    by_cases hlt : j < cs.length
    · by_cases h100 : j < 100
      · obtain ⟨b, off, rfl, hc⟩ := hC (by omega)
        obtain ⟨q, c, hrg, hby, hnil, hbm, hn1, hn2⟩ := hc j hlt
        clear hc
        generalize cs.getD j default = x at *
        have hrg1 := keep_range t.below hrg
        have hby1 := hby.belowB t.below (Nat.le_refl _)
        have hqb : ∀ a, q = some a → 0 < x.b.length → a.block < w.heap.size := fun a ha hp => by
          obtain ⟨b', o', e, h1⟩ := hby hp
          rw [ha] at e
          injection e with e
          have := block_lt_of_cell (h1 0 hp)
          rw [e]; exact this
        go_upto_region 11 with (first | (refine wpList_load_mid ?hw 33 (.tmp 51) (by rfl) b (off + j * 3) (by rfl) [.int .i64 x.kind, .int .i64 x.n, .slice q x.b.length c] _ hrg1 Try.underlying33 rfl ?hi ?_; (case hw => rfl); (case hi => exact info33)) | (refine store_row0 33 (.tmp 10) (.tmp 52) (by rfl) (by rfl) (by rfl) wr.heap.size #[.int .i64 x.kind, .int .i64 x.n, .slice q x.b.length c] (by rfl) (by rfl) 33 #[.int .i64 0, .int .i64 0, .slice none 0 0] ?hrow ?hi (by rfl) (by rfl) ?_; (case hrow => exact Row.new wr 33 #[.int .i64 0, .int .i64 0, .slice none 0 0]); (case hi => exact info33)))
        have hm := Row.new wr 33 #[.int .i64 x.kind, .int .i64 x.n, .slice q x.b.length c]
        have ba : Below wr.heap.size wr (wr.alloc (.cells #[.int .i64 x.kind, .int .i64 x.n, .slice q x.b.length c] 33)) := (Below.refl _ _).alloc (Nat.le_refl _) _
        have hmr : w.heap.size ≤ wr.heap.size := t.below.size
        have l1 := t.dk.lt
        have l2' := t.rk.lt
        replace t := t.later ba
        replace hby1 := hby1.below ba
        generalize hM : wr.heap.size = m at *
        generalize wr.alloc (.cells #[.int .i64 x.kind, .int .i64 x.n, .slice q x.b.length c] 33) = w5 at *
        clear ba hM hrg1 hrg
        have m0 : w5.cell? ⟨m, 0, none⟩ = some (.int .i64 x.kind) := hm.cell
        have m1 : w5.cell? ⟨m, 1, none⟩ = some (.int .i64 x.n) := hm.cell
        have m2 : w5.cell? ⟨m, 2, none⟩ = some (.slice q x.b.length c) := hm.cell
        by_cases hb500 : x.b.length ≤ 500
        · have hbd : decide ((x.b.length : Int) > 500) = false := by simp; omega
          have z0 := Int.emod_nonneg x.kind (show (5 : Int) ≠ 0 by decide)
          have z1 := Int.emod_lt_of_pos x.kind (show (0 : Int) < 5 by decide)
          have hwi := fun w1 => within_any x.kind 5 w1 (by decide) (by decide)
          obtain ⟨k, hkk⟩ : ∃ k : Int, x.kind % 5 = k := ⟨_, rfl⟩
          rw [hkk] at hwi z0 z1
          clear hkk
          have hrb := rb_of hk hs
          go_upto_block 2 with (first | (go_at_call 10; (with_reducible refine Calls.mono (hwi _) ?_); rintro e w2 ⟨rfl, hw⟩; obtain rfl := hw.symm; clear hw))
          go_cut [] from 35 to 138 (fun wx => ∃ (h h2 : Nat) (d r : D), Two w wx g h g2 h2 d r ∧ Ok d ∧ Sim d r ∧ d.ops ≤ (j : Int) + 1)
          case first =>
            have lm1 : m ≠ g := by omega
            have lm2 : m ≠ h := by omega
            have lm3 : m ≠ g2 := by omega
            have lm4 : m ≠ h2 := by omega
            rcases (by omega : k = 0 ∨ k = 1 ∨ k = 2 ∨ k = 3 ∨ k = 4) with rfl | rfl | rfl | rfl | rfl
            · obtain ⟨y1, y2⟩ := sim_app hs x.b
              have k3 := ok_app hk (by omega) x.b
              have k4 := (app_ops d x.b).2
              have m2a : (w5.alloc (.cells #[] 5)).cell? ⟨m, 2, none⟩ = some (.slice q x.b.length c) := (hm.alloc _).cell
              have hl0 : ([] : List Int).length + x.b.length ≤ 70368744177664 := by simp; omega
              have hs0 := size_alloc1 w5
              have hbya := hby1.below ((Below.refl w5.heap.size w5).alloc (Nat.le_refl _) (.cells #[] 5))
              go_wp2_with (refine append8 (.tmp 63) (.tmp 65) 31 5 (by rfl) (by rfl) w5.heap.size Try.underlying31 info5 (.slice (some ⟨w5.heap.size, 0, none⟩) 0 0) [] (by rfl) ?hown q x.b.length c x.b (by rfl) rfl ?hnil ?hby ?hlen ?hB ?_; (case hown => exact own8_lit w5 w5.heap.size (Nat.le_refl _)); (case hnil => exact hnil); (case hby => exact hbya); (case hlen => exact hl0); (case hB => exact hs0); intro sp4 cap4 w6 o6 b6)
              have b56 := below_lit b6
              rw [List.nil_append] at o6
              have t6 := t.later b56
              have hm6 := hm.below b56 hm.lt
              have m26 : w6.drew.cell? ⟨m, 2, none⟩ = some (.slice q x.b.length c) := hm6.drew.cell
              have k1 := tw_append (show Two w w6.drew g h g2 h2 d r from t6.drewN 1) hk x.b sp4 x.b.length cap4 rfl (show Bytes w6.drew sp4 x.b from o6.bytes) o6.none0 (by omega) _ _ rfl rfl
              have k2 := fun w1 h1 d1 (t1 : Two w w1 g h1 g2 h2 d1 r) => tr_append t1 hrb x.b q x.b.length c rfl (hby.belowB t1.below (Nat.le_refl _)) (fun hp a ha e => by have h3 := hqb a ha hp; have h4 := t.hg2; omega) hnil (by omega) _ _ y1 rfl
              have l5 : g < w5.heap.size ∧ h < w5.heap.size ∧ g2 < w5.heap.size ∧ h2 < w5.heap.size := ⟨t.dk.lt.1, t.dk.lt.2, t.rk.lt.1, t.rk.lt.2⟩
              have l56 := b56.size
              have lw5 := t.below.size
              clear y1 m2a hbya b6 b56 t m0 m1 m2 hby1 hm
              generalize dApp d x.b = d1 at *
              generalize rApp r x.b = r1 at *
              generalize aErr d x.b = E at *
              go_region_with (first | (go_at_call 11; (with_reducible refine Calls.mono k1 ?_); rintro e w7 ⟨rfl, h7, t7, f7, hor7⟩; have m27 : w7.cell? ⟨m, 2, none⟩ = some (.slice q x.b.length c) := (hm6.drew.fr f7 (by simp; exact ⟨lm1, lm2⟩)).cell) | (go_at_call 12; (with_reducible refine Calls.mono (k2 _ _ _ t7) ?_); rintro e w8 ⟨rfl, h8, t8, f8, hor8⟩))
              all_goals
                clear k1 k2 m26 m27
                by_cases hz : x.b.length = 0
                · go_wp2
                  go_loop [12] (fun i => i = .int .i64 0) (fun _ => 0)
                  case atStart => rfl
                  case round =>
                    subst hrel
                    have hzd : decide ((0 : Int) < x.b.length) = false := decide_eq_false (by omega)
                    go_wp2
                    go_meet
                    case rel => exact ⟨h7, h8, d1, r1, t8, k3, y2, by omega⟩
                · obtain ⟨gm, cur, rfl, hgm, hrow, hcur⟩ := own8_some o6 (by omega)
                  have lgm := hrow.lt
                  have hdz : w6.drew.heap.size = w6.heap.size := rfl
                  have lh7 : gm ≠ h7 := by rcases hor7 with e | e <;> omega
                  have ls7 := f7.size
                  have lh8 : gm ≠ h8 := by rcases hor8 with e | e | e <;> omega
                  have hr7 := hrow.drew.fr f7 (by simp; omega)
                  have hr8 := hr7.fr f8 (by simp; omega)
                  have ln := hcur
                  clear hdz hrow hr7 o6 f7 f8 hor7 hor8 hm6 t7 t6
                  go_wp2
                  go_loopw [12] (fun i wq => ∃ (i0 : Nat) (cu : Array Value), i = .int .i64 i0 ∧ i0 ≤ x.b.length ∧ Two w wq g h7 g2 h8 d1 r1 ∧ Row wq gm 5 cu ∧ x.b.length ≤ cu.size) (fun i _ => x.b.length - (intOf i).toNat)
                  case atStart => exact ⟨0, cur, rfl, by omega, t8, hr8, hcur⟩
                  case round =>
                    obtain ⟨i0, cu, rfl, hi0, tq, hrq, hcq⟩ := hrel
                    clear t8 hr8
                    by_cases hlq : i0 < x.b.length
                    · have hcell : wr.cell? ⟨gm, i0, none⟩ = some (cu[i0]'(by omega)) := by rw [hrq.cell]; simp
                      have hfz := hrq.frozen (j := i0)
                      go_wp2
                      go_roundw
                      case rel => exact ⟨i0 + 1, _, by go_num, by omega, tq.fr ((Fr.refl [gm] _).setCell (by simp) _) (by omega) (by omega) lh7 (by omega) lh8, hrq.set0 i0 _, by simpa using hcq⟩
                      case measure => simp [intOf]; omega
                    · obtain rfl : i0 = x.b.length := by omega
                      go_wp2
                      go_meet
                      case rel => exact ⟨h7, h8, d1, r1, tq, k3, y2, by omega⟩
            · obtain ⟨y1, y2⟩ := sim_app hs x.b
              have k3 := ok_app hk (by omega) x.b
              have k4 := (app_ops d x.b).2
              have m2a : (w5.alloc (.cells #[] 5)).cell? ⟨m, 2, none⟩ = some (.slice q x.b.length c) := (hm.alloc _).cell
              have hl0 : ([] : List Int).length + x.b.length ≤ 70368744177664 := by simp; omega
              have hs0 := size_alloc1 w5
              have hbya := hby1.below ((Below.refl w5.heap.size w5).alloc (Nat.le_refl _) (.cells #[] 5))
              go_wp2_with (refine append8 (.tmp 63) (.tmp 65) 31 5 (by rfl) (by rfl) w5.heap.size Try.underlying31 info5 (.slice (some ⟨w5.heap.size, 0, none⟩) 0 0) [] (by rfl) ?hown q x.b.length c x.b (by rfl) rfl ?hnil ?hby ?hlen ?hB ?_; (case hown => exact own8_lit w5 w5.heap.size (Nat.le_refl _)); (case hnil => exact hnil); (case hby => exact hbya); (case hlen => exact hl0); (case hB => exact hs0); intro sp4 cap4 w6 o6 b6)
              have b56 := below_lit b6
              rw [List.nil_append] at o6
              have t6 := t.later b56
              have hm6 := hm.below b56 hm.lt
              have m26 : w6.drew.cell? ⟨m, 2, none⟩ = some (.slice q x.b.length c) := hm6.drew.cell
              have k1 := tw_append (show Two w w6.drew g h g2 h2 d r from t6.drewN 1) hk x.b sp4 x.b.length cap4 rfl (show Bytes w6.drew sp4 x.b from o6.bytes) o6.none0 (by omega) _ _ rfl rfl
              have k2 := fun w1 h1 d1 (t1 : Two w w1 g h1 g2 h2 d1 r) => tr_append t1 hrb x.b q x.b.length c rfl (hby.belowB t1.below (Nat.le_refl _)) (fun hp a ha e => by have h3 := hqb a ha hp; have h4 := t.hg2; omega) hnil (by omega) _ _ y1 rfl
              have l5 : g < w5.heap.size ∧ h < w5.heap.size ∧ g2 < w5.heap.size ∧ h2 < w5.heap.size := ⟨t.dk.lt.1, t.dk.lt.2, t.rk.lt.1, t.rk.lt.2⟩
              have l56 := b56.size
              have lw5 := t.below.size
              clear y1 m2a hbya b6 b56 t m0 m1 m2 hby1 hm
              generalize dApp d x.b = d1 at *
              generalize rApp r x.b = r1 at *
              generalize aErr d x.b = E at *
              go_region_with (first | (go_at_call 11; (with_reducible refine Calls.mono k1 ?_); rintro e w7 ⟨rfl, h7, t7, f7, hor7⟩; have m27 : w7.cell? ⟨m, 2, none⟩ = some (.slice q x.b.length c) := (hm6.drew.fr f7 (by simp; exact ⟨lm1, lm2⟩)).cell) | (go_at_call 12; (with_reducible refine Calls.mono (k2 _ _ _ t7) ?_); rintro e w8 ⟨rfl, h8, t8, f8, hor8⟩))
              all_goals
                clear k1 k2 m26 m27
                by_cases hz : x.b.length = 0
                · go_wp2
                  go_loop [12] (fun i => i = .int .i64 0) (fun _ => 0)
                  case atStart => rfl
                  case round =>
                    subst hrel
                    have hzd : decide ((0 : Int) < x.b.length) = false := decide_eq_false (by omega)
                    go_wp2
                    go_meet
                    case rel => exact ⟨h7, h8, d1, r1, t8, k3, y2, by omega⟩
                · obtain ⟨gm, cur, rfl, hgm, hrow, hcur⟩ := own8_some o6 (by omega)
                  have lgm := hrow.lt
                  have hdz : w6.drew.heap.size = w6.heap.size := rfl
                  have lh7 : gm ≠ h7 := by rcases hor7 with e | e <;> omega
                  have ls7 := f7.size
                  have lh8 : gm ≠ h8 := by rcases hor8 with e | e | e <;> omega
                  have hr7 := hrow.drew.fr f7 (by simp; omega)
                  have hr8 := hr7.fr f8 (by simp; omega)
                  have ln := hcur
                  clear hdz hrow hr7 o6 f7 f8 hor7 hor8 hm6 t7 t6
                  go_wp2
                  go_loopw [12] (fun i wq => ∃ (i0 : Nat) (cu : Array Value), i = .int .i64 i0 ∧ i0 ≤ x.b.length ∧ Two w wq g h7 g2 h8 d1 r1 ∧ Row wq gm 5 cu ∧ x.b.length ≤ cu.size) (fun i _ => x.b.length - (intOf i).toNat)
                  case atStart => exact ⟨0, cur, rfl, by omega, t8, hr8, hcur⟩
                  case round =>
                    obtain ⟨i0, cu, rfl, hi0, tq, hrq, hcq⟩ := hrel
                    clear t8 hr8
                    by_cases hlq : i0 < x.b.length
                    · have hcell : wr.cell? ⟨gm, i0, none⟩ = some (cu[i0]'(by omega)) := by rw [hrq.cell]; simp
                      have hfz := hrq.frozen (j := i0)
                      go_wp2
                      go_roundw
                      case rel => exact ⟨i0 + 1, _, by go_num, by omega, tq.fr ((Fr.refl [gm] _).setCell (by simp) _) (by omega) (by omega) lh7 (by omega) lh8, hrq.set0 i0 _, by simpa using hcq⟩
                      case measure => simp [intOf]; omega
                    · obtain rfl : i0 = x.b.length := by omega
                      go_wp2
                      go_meet
                      case rel => exact ⟨h7, h8, d1, r1, tq, k3, y2, by omega⟩
            · obtain ⟨y1, y2⟩ := sim_sync hs
              have k1 := tw_sync t hk _ _ rfl rfl
              have k2 := fun w1 (t1 : Two w w1 g h g2 h2 (dSync d) r) => tr_sync t1 hrb _ _ y1 rfl
              have k3 := ok_sync hk (by omega)
              have k4 := (sync_ops d).2
              clear y1
              generalize dSync d = d1 at *
              generalize rSync r = r1 at *
              generalize sErr d = E at *
              go_wp2_with (first | (go_at_call 13; (with_reducible refine Calls.mono (k1) ?_); rintro e w6 ⟨rfl, t6⟩) | (go_at_call 14; (with_reducible refine Calls.mono (k2 _ t6) ?_); rintro e w7 ⟨rfl, t7⟩))
              go_meet
              case rel => exact ⟨h, h2, d1, r1, t7, k3, y2, by omega⟩
            · have k1 := tw_stop t x.n _ rfl
              have k2 := fun w1 (t1 : Two w w1 g h g2 h2 { d with left := lmax x.n } r) => tr_stop t1 x.n _ rfl
              have k3 := ok_stop hk x.n hn2
              have y2 := sim_stop hs x.n hn2
              have k4 : ({ d with left := lmax x.n } : D).ops ≤ (j : Int) + 1 := by simp only; omega
              generalize ({ d with left := lmax x.n } : D) = d1 at *
              generalize ({ r with left := lmax x.n } : D) = r1 at *
              go_wp2_with (first | (go_at_call 15; (with_reducible refine Calls.mono (k1) ?_); rintro e w6 ⟨rfl, t6, f6⟩; have m16 : w6.cell? ⟨m, 1, none⟩ = some (.int .i64 x.n) := (hm.fr f6 (by simp; exact ⟨lm1, lm2⟩)).cell) | (go_at_call 16; (with_reducible refine Calls.mono (k2 _ t6) ?_); rintro e w7 ⟨rfl, t7⟩))
              go_meet
              case rel => exact ⟨h, h2, d1, r1, t7, k3, y2, k4⟩
            · obtain ⟨y1, y2⟩ := sim_crash hs x.n
              have k1 := tw_crash (show Two w w5.drew g h g2 h2 d r from t.drewN 1) hk x.n _ _ rfl rfl
              have y1' : (stay r x.n : Int) = (stay d x.n : Int) := by rw [y1]
              have k2 := fun w1 (t1 : Two w w1 g h g2 h2 (dCrash d x.n) r) => tr_crash t1 hrb x.n _ _ y1' rfl
              have k3 := ok_crash hk x.n
              have k4 : (dCrash d x.n).ops ≤ (j : Int) + 1 := by show d.ops ≤ _; omega
              clear y1 y1'
              generalize dCrash d x.n = d1 at *
              generalize dCrash r x.n = r1 at *
              generalize stay d x.n = E at *
              go_wp2
              go_region_with (first | (go_at_call 17; (with_reducible refine Calls.mono (k1) ?_); rintro e w6 ⟨rfl, t6, f6⟩; have m16 : w6.cell? ⟨m, 1, none⟩ = some (.int .i64 x.n) := (hm.drew.fr f6 (by simp; exact ⟨lm1, lm2⟩)).cell) | (go_at_call 18; (with_reducible refine Calls.mono (k2 _ t6) ?_); rintro e w7 ⟨rfl, t7⟩))
              all_goals
                go_wp2
                go_meet
                case rel => exact ⟨h, h2, d1, r1, t7, k3, y2, k4⟩
          case rest =>
            obtain ⟨h', h2', d', r', t', hk', hs', hops'⟩ := hcut
            clear hby1 hby hm m0 m1 m2 hwi hrb t
            obtain ⟨sp2, cap2, rr, ro, re⟩ := t'.rk
            have hsz : d'.bytes.length ≤ 16777216 := by
              have h1 := hk'.fits
              have h2 := hk'.room
              omega
            have q1 : ∀ w1, Bytes w1 sp2 r'.bytes → (convert 31 9 (.slice sp2 r'.bytes.length cap2)).run Try.prog w1 = .ok (.string (strOfNums d'.bytes)) w1 := fun w1 h => by
              rw [← hs'.bytes]; exact run_str w1 sp2 _ cap2 r'.bytes rfl h
            have q2 : ∀ w1 (sp : Option Addr) (cp : Nat), Bytes w1 sp d'.bytes → (convert 31 9 (.slice sp d'.bytes.length cp)).run Try.prog w1 = .ok (.string (strOfNums d'.bytes)) w1 := fun w1 sp cp h => run_str w1 sp _ cp d'.bytes rfl h
            have eR : ((strOfNums d'.bytes).toList != (strOfNums d'.bytes).toList) = false := by simp
            have k2 : wc.cell? ⟨g2, 2, none⟩ = some (.slice sp2 r'.bytes.length cap2) := rr.cell
            have k5 : wc.cell? ⟨g2, 5, none⟩ = some (.bool d'.dead) := by rw [← hs'.dead]; exact rr.cell
            have k4 : wc.cell? ⟨g2, 4, none⟩ = some (.int .i64 d'.ops) := by rw [← hs'.ops]; exact rr.cell
            have hrB := ro.bytes
            obtain ⟨B, hB⟩ : ∃ B, B = wc.heap.size := ⟨_, rfl⟩
            have hsB : ∀ {w : World}, Below B wc w → B ≤ w.heap.size := fun h => by have := h.size; omega
            have hBy : ∀ wx, Below B wc wx → Calls Try.prog 19 #[.pointer (some ⟨g, 0, none⟩)] wx fun e wy => ∃ sp cp, e = .returned (.slice sp d'.bytes.length cp) ∧ Own8 wy wx.heap.size 5 (.slice sp d'.bytes.length cp) d'.bytes ∧ Below wx.heap.size wx wy := fun wx hb =>
              (bytes_any d' g h' wx (t'.later (by rw [← hB]; exact hb)).dk hk').mono fun e wy ⟨he, hr, hb2⟩ => ⟨_, _, he, own8_row hr (by unfold maxLen; omega), hb2⟩
            have hDe : ∀ wx, Below B wc wx → Calls Try.prog 20 #[.pointer (some ⟨g, 0, none⟩)] wx fun e wy => e = .returned (.bool d'.dead) ∧ Below wx.heap.size wx wy := fun wx hb =>
              (dead_any d' g h' wx (t'.later (by rw [← hB]; exact hb)).dk).mono fun e wy ⟨he, hw⟩ => ⟨he, by rw [hw]; exact Below.refl _ _⟩
            have hOp : ∀ wx, Below B wc wx → Calls Try.prog 21 #[.pointer (some ⟨g, 0, none⟩)] wx fun e wy => e = .returned (.int .i64 d'.ops) ∧ Below wx.heap.size wx wy := fun wx hb =>
              (ops_any d' g h' wx (t'.later (by rw [← hB]; exact hb)).dk).mono fun e wy ⟨he, hw⟩ => ⟨he, by rw [hw]; exact Below.refl _ _⟩
            have kk : ∀ wx, Below B wc wx → wx.cell? ⟨g2, 2, none⟩ = some (.slice sp2 r'.bytes.length cap2) ∧ wx.cell? ⟨g2, 5, none⟩ = some (.bool d'.dead) ∧ wx.cell? ⟨g2, 4, none⟩ = some (.int .i64 d'.ops) ∧ Bytes wx sp2 r'.bytes := fun wx hb =>
              ⟨keep_at (by rw [← hB]; exact hb) k2, keep_at (by rw [← hB]; exact hb) k5, keep_at (by rw [← hB]; exact hb) k4, hrB.belowB hb (by rw [hB]; exact Nat.le_refl _)⟩
            clear k2 k4 k5 rr ro re
            go_wp2
            refine region_invFA  (by kernel_rfl) (by kernel_rfl) (fun a0 listed a w => ∃ s112 s113 s114 s115 s116 s117 s118 s119 s120 s121 s122 s123 s124 s125 s126 s127 s128 s129 s130 s131 s132 s133 s134 s135 s136 s137 s138, a = (Act.put (Act.put (Act.put (Act.put (Act.put (Act.put (Act.put (Act.put (Act.put (Act.put (Act.put (Act.put (Act.put (Act.put (Act.put (Act.put (Act.put (Act.put (Act.put (Act.put (Act.put (Act.put (Act.put (Act.put (Act.put (Act.put (Act.put a0 (some 112) s112) (some 113) s113) (some 114) s114) (some 115) s115) (some 116) s116) (some 117) s117) (some 118) s118) (some 119) s119) (some 120) s120) (some 121) s121) (some 122) s122) (some 123) s123) (some 124) s124) (some 125) s125) (some 126) s126) (some 127) s127) (some 128) s128) (some 129) s129) (some 130) s130) (some 131) s131) (some 132) s132) (some 133) s133) (some 134) s134) (some 135) s135) (some 136) s136) (some 137) s137) (some 138) s138) ∧ Below B wc w ∧ (listed.getD 0 false = true → s112 = .pointer (some ⟨g, 0, none⟩)) ∧ (listed.getD 1 false = true → listed.getD 2 false = false → OwnS w B s113 d'.bytes.length d'.bytes) ∧ (listed.getD 2 false = true → s114 = .string (strOfNums d'.bytes)) ∧ (listed.getD 3 false = true → s115 = .pointer (some ⟨g2, 0, none⟩)) ∧ (listed.getD 4 false = true → s116 = .pointer (some ⟨g2, 0, none⟩)) ∧ (listed.getD 5 false = true → s117 = .pointer (some ⟨g2, 2, none⟩)) ∧ (listed.getD 6 false = true → s118 = .slice sp2 r'.bytes.length cap2) ∧ (listed.getD 7 false = true → s119 = .string (strOfNums d'.bytes)) ∧ (listed.getD 8 false = true → s120 = .bool false) ∧ (listed.getD 9 false = true → s121 = .bool false) ∧ (listed.getD 10 false = true → s122 = .pointer (some ⟨g, 0, none⟩)) ∧ (listed.getD 11 false = true → s123 = (.bool d'.dead)) ∧ (listed.getD 12 false = true → s124 = .pointer (some ⟨g2, 0, none⟩)) ∧ (listed.getD 13 false = true → s125 = .pointer (some ⟨g2, 0, none⟩)) ∧ (listed.getD 14 false = true → s126 = .pointer (some ⟨g2, 5, none⟩)) ∧ (listed.getD 15 false = true → s127 = (.bool d'.dead)) ∧ (listed.getD 16 false = true → s128 = .bool false) ∧ (listed.getD 17 false = true → s129 = .bool false) ∧ (listed.getD 18 false = true → s130 = .bool false) ∧ (listed.getD 19 false = true → s131 = .pointer (some ⟨g, 0, none⟩)) ∧ (listed.getD 20 false = true → s132 = (.int .i64 d'.ops)) ∧ (listed.getD 21 false = true → s133 = .pointer (some ⟨g2, 0, none⟩)) ∧ (listed.getD 22 false = true → s134 = .pointer (some ⟨g2, 0, none⟩)) ∧ (listed.getD 23 false = true → s135 = .pointer (some ⟨g2, 4, none⟩)) ∧ (listed.getD 24 false = true → s136 = (.int .i64 d'.ops)) ∧ (listed.getD 25 false = true → s137 = .bool false) ∧ (listed.getD 26 false = true → s138 = .bool false)) ?_ ?_ ?_
            all_goals simp only [Act.put, List.setIfInBounds_toArray, List.set_cons_succ, List.set_cons_zero]
            · exact ⟨_, _, _, _, _, _, _, _, _, _, _, _, _, _, _, _, _, _, _, _, _, _, _, _, _, _, _, rfl, (Below.refl B _).drew, (fun h => by rw [getD_replicate_false] at h; cases h), (fun h => by rw [getD_replicate_false] at h; cases h), (fun h => by rw [getD_replicate_false] at h; cases h), (fun h => by rw [getD_replicate_false] at h; cases h), (fun h => by rw [getD_replicate_false] at h; cases h), (fun h => by rw [getD_replicate_false] at h; cases h), (fun h => by rw [getD_replicate_false] at h; cases h), (fun h => by rw [getD_replicate_false] at h; cases h), (fun h => by rw [getD_replicate_false] at h; cases h), (fun h => by rw [getD_replicate_false] at h; cases h), (fun h => by rw [getD_replicate_false] at h; cases h), (fun h => by rw [getD_replicate_false] at h; cases h), (fun h => by rw [getD_replicate_false] at h; cases h), (fun h => by rw [getD_replicate_false] at h; cases h), (fun h => by rw [getD_replicate_false] at h; cases h), (fun h => by rw [getD_replicate_false] at h; cases h), (fun h => by rw [getD_replicate_false] at h; cases h), (fun h => by rw [getD_replicate_false] at h; cases h), (fun h => by rw [getD_replicate_false] at h; cases h), (fun h => by rw [getD_replicate_false] at h; cases h), (fun h => by rw [getD_replicate_false] at h; cases h), (fun h => by rw [getD_replicate_false] at h; cases h), (fun h => by rw [getD_replicate_false] at h; cases h), (fun h => by rw [getD_replicate_false] at h; cases h), (fun h => by rw [getD_replicate_false] at h; cases h), (fun h => by rw [getD_replicate_false] at h; cases h), (fun h => by rw [getD_replicate_false] at h; cases h)⟩
            · intro listed a w i o hls hJ hin ho hi hall hcl
              obtain ⟨s112, s113, s114, s115, s116, s117, s118, s119, s120, s121, s122, s123, s124, s125, s126, s127, s128, s129, s130, s131, s132, s133, s134, s135, s136, s137, s138, rfl, hbW, c0, c1, c2, c3, c4, c5, c6, c7, c8, c9, c10, c11, c12, c13, c14, c15, c16, c17, c18, c19, c20, c21, c22, c23, c24, c25, c26⟩ := hJ
              replace hin : i < 27 := hin
              rcases (by omega : i = 0 ∨ i = 1 ∨ i = 2 ∨ i = 3 ∨ i = 4 ∨ i = 5 ∨ i = 6 ∨ i = 7 ∨ i = 8 ∨ i = 9 ∨ i = 10 ∨ i = 11 ∨ i = 12 ∨ i = 13 ∨ i = 14 ∨ i = 15 ∨ i = 16 ∨ i = 17 ∨ i = 18 ∨ i = 19 ∨ i = 20 ∨ i = 21 ∨ i = 22 ∨ i = 23 ∨ i = 24 ∨ i = 25 ∨ i = 26) with rfl | rfl | rfl | rfl | rfl | rfl | rfl | rfl | rfl | rfl | rfl | rfl | rfl | rfl | rfl | rfl | rfl | rfl | rfl | rfl | rfl | rfl | rfl | rfl | rfl | rfl | rfl
              · obtain rfl := Option.some.inj ho
                have hsz : 0 < listed.size := by rw [hls]; decide
                have hbw := hbW
                refine inv_val (w' := w) (.pointer (some ⟨g, 0, none⟩)) rfl rfl rfl ?_
                exact ⟨(.pointer (some ⟨g, 0, none⟩)), s113, s114, s115, s116, s117, s118, s119, s120, s121, s122, s123, s124, s125, s126, s127, s128, s129, s130, s131, s132, s133, s134, s135, s136, s137, s138, rfl, hbw, (fun _ => rfl), (fun h h2 => c1 (bit_ne h (by decide)) (bit_ne h2 (by decide))), (fun h => c2 (bit_ne h (by decide))), (fun h => c3 (bit_ne h (by decide))), (fun h => c4 (bit_ne h (by decide))), (fun h => c5 (bit_ne h (by decide))), (fun h => c6 (bit_ne h (by decide))), (fun h => c7 (bit_ne h (by decide))), (fun h => c8 (bit_ne h (by decide))), (fun h => c9 (bit_ne h (by decide))), (fun h => c10 (bit_ne h (by decide))), (fun h => c11 (bit_ne h (by decide))), (fun h => c12 (bit_ne h (by decide))), (fun h => c13 (bit_ne h (by decide))), (fun h => c14 (bit_ne h (by decide))), (fun h => c15 (bit_ne h (by decide))), (fun h => c16 (bit_ne h (by decide))), (fun h => c17 (bit_ne h (by decide))), (fun h => c18 (bit_ne h (by decide))), (fun h => c19 (bit_ne h (by decide))), (fun h => c20 (bit_ne h (by decide))), (fun h => c21 (bit_ne h (by decide))), (fun h => c22 (bit_ne h (by decide))), (fun h => c23 (bit_ne h (by decide))), (fun h => c24 (bit_ne h (by decide))), (fun h => c25 (bit_ne h (by decide))), (fun h => c26 (bit_ne h (by decide)))⟩
              · obtain rfl := Option.some.inj ho
                have hsz : 1 < listed.size := by rw [hls]; decide
                have hdep0 : listed.getD 0 false = true := hall ⟨0, .data⟩ (by simp) (by rfl)
                obtain rfl := c0 hdep0
                refine inv_call 19 #[.pointer (some ⟨g, 0, none⟩)] _ rfl rfl (by kernel_rfl) (hBy w hbW) ?_
                rintro e w' ⟨sp, cap, rfl, ow, hb⟩
                have hbw : Below B wc w' := hbW.trans (hb.mono (hsB hbW))
                refine ⟨_, rfl, ?_⟩
                exact ⟨(.pointer (some ⟨g, 0, none⟩)), (.slice sp d'.bytes.length cap), s114, s115, s116, s117, s118, s119, s120, s121, s122, s123, s124, s125, s126, s127, s128, s129, s130, s131, s132, s133, s134, s135, s136, s137, s138, rfl, hbw, (fun h => c0 (bit_ne h (by decide))), (fun _ _ => ⟨sp, cap, rfl, ow.mono (hsB hbW)⟩), (fun h => c2 (bit_ne h (by decide))), (fun h => c3 (bit_ne h (by decide))), (fun h => c4 (bit_ne h (by decide))), (fun h => c5 (bit_ne h (by decide))), (fun h => c6 (bit_ne h (by decide))), (fun h => c7 (bit_ne h (by decide))), (fun h => c8 (bit_ne h (by decide))), (fun h => c9 (bit_ne h (by decide))), (fun h => c10 (bit_ne h (by decide))), (fun h => c11 (bit_ne h (by decide))), (fun h => c12 (bit_ne h (by decide))), (fun h => c13 (bit_ne h (by decide))), (fun h => c14 (bit_ne h (by decide))), (fun h => c15 (bit_ne h (by decide))), (fun h => c16 (bit_ne h (by decide))), (fun h => c17 (bit_ne h (by decide))), (fun h => c18 (bit_ne h (by decide))), (fun h => c19 (bit_ne h (by decide))), (fun h => c20 (bit_ne h (by decide))), (fun h => c21 (bit_ne h (by decide))), (fun h => c22 (bit_ne h (by decide))), (fun h => c23 (bit_ne h (by decide))), (fun h => c24 (bit_ne h (by decide))), (fun h => c25 (bit_ne h (by decide))), (fun h => c26 (bit_ne h (by decide)))⟩
              · obtain rfl := Option.some.inj ho
                have hsz : 2 < listed.size := by rw [hls]; decide
                have hdep1 : listed.getD 1 false = true := hall ⟨1, .data⟩ (by simp) (by rfl)
                obtain ⟨sp1, cap1, rfl, o1⟩ := c1 hdep1 hi
                have hbw := hbW
                refine inv_val (w' := w) (.string (strOfNums d'.bytes)) rfl rfl (by have hq := q2 w sp1 cap1 o1.bytes; go_simp) ?_
                exact ⟨s112, (.slice sp1 d'.bytes.length cap1), (.string (strOfNums d'.bytes)), s115, s116, s117, s118, s119, s120, s121, s122, s123, s124, s125, s126, s127, s128, s129, s130, s131, s132, s133, s134, s135, s136, s137, s138, rfl, hbw, (fun h => c0 (bit_ne h (by decide))), (fun _ h2 => absurd (bit_on hsz) (by rw [h2]; decide)), (fun _ => rfl), (fun h => c3 (bit_ne h (by decide))), (fun h => c4 (bit_ne h (by decide))), (fun h => c5 (bit_ne h (by decide))), (fun h => c6 (bit_ne h (by decide))), (fun h => c7 (bit_ne h (by decide))), (fun h => c8 (bit_ne h (by decide))), (fun h => c9 (bit_ne h (by decide))), (fun h => c10 (bit_ne h (by decide))), (fun h => c11 (bit_ne h (by decide))), (fun h => c12 (bit_ne h (by decide))), (fun h => c13 (bit_ne h (by decide))), (fun h => c14 (bit_ne h (by decide))), (fun h => c15 (bit_ne h (by decide))), (fun h => c16 (bit_ne h (by decide))), (fun h => c17 (bit_ne h (by decide))), (fun h => c18 (bit_ne h (by decide))), (fun h => c19 (bit_ne h (by decide))), (fun h => c20 (bit_ne h (by decide))), (fun h => c21 (bit_ne h (by decide))), (fun h => c22 (bit_ne h (by decide))), (fun h => c23 (bit_ne h (by decide))), (fun h => c24 (bit_ne h (by decide))), (fun h => c25 (bit_ne h (by decide))), (fun h => c26 (bit_ne h (by decide)))⟩
              · obtain rfl := Option.some.inj ho
                have hsz : 3 < listed.size := by rw [hls]; decide
                have hbw := hbW
                refine inv_val (w' := w) (.pointer (some ⟨g2, 0, none⟩)) rfl rfl rfl ?_
                exact ⟨s112, s113, s114, (.pointer (some ⟨g2, 0, none⟩)), s116, s117, s118, s119, s120, s121, s122, s123, s124, s125, s126, s127, s128, s129, s130, s131, s132, s133, s134, s135, s136, s137, s138, rfl, hbw, (fun h => c0 (bit_ne h (by decide))), (fun h h2 => c1 (bit_ne h (by decide)) (bit_ne h2 (by decide))), (fun h => c2 (bit_ne h (by decide))), (fun _ => rfl), (fun h => c4 (bit_ne h (by decide))), (fun h => c5 (bit_ne h (by decide))), (fun h => c6 (bit_ne h (by decide))), (fun h => c7 (bit_ne h (by decide))), (fun h => c8 (bit_ne h (by decide))), (fun h => c9 (bit_ne h (by decide))), (fun h => c10 (bit_ne h (by decide))), (fun h => c11 (bit_ne h (by decide))), (fun h => c12 (bit_ne h (by decide))), (fun h => c13 (bit_ne h (by decide))), (fun h => c14 (bit_ne h (by decide))), (fun h => c15 (bit_ne h (by decide))), (fun h => c16 (bit_ne h (by decide))), (fun h => c17 (bit_ne h (by decide))), (fun h => c18 (bit_ne h (by decide))), (fun h => c19 (bit_ne h (by decide))), (fun h => c20 (bit_ne h (by decide))), (fun h => c21 (bit_ne h (by decide))), (fun h => c22 (bit_ne h (by decide))), (fun h => c23 (bit_ne h (by decide))), (fun h => c24 (bit_ne h (by decide))), (fun h => c25 (bit_ne h (by decide))), (fun h => c26 (bit_ne h (by decide)))⟩
              · obtain rfl := Option.some.inj ho
                have hsz : 4 < listed.size := by rw [hls]; decide
                have hdep3 : listed.getD 3 false = true := hall ⟨3, .data⟩ (by simp) (by rfl)
                obtain rfl := c3 hdep3
                have hbw := hbW
                refine inv_val (w' := w) (.pointer (some ⟨g2, 0, none⟩)) rfl rfl (by kernel_rfl) ?_
                exact ⟨s112, s113, s114, (.pointer (some ⟨g2, 0, none⟩)), (.pointer (some ⟨g2, 0, none⟩)), s117, s118, s119, s120, s121, s122, s123, s124, s125, s126, s127, s128, s129, s130, s131, s132, s133, s134, s135, s136, s137, s138, rfl, hbw, (fun h => c0 (bit_ne h (by decide))), (fun h h2 => c1 (bit_ne h (by decide)) (bit_ne h2 (by decide))), (fun h => c2 (bit_ne h (by decide))), (fun h => c3 (bit_ne h (by decide))), (fun _ => rfl), (fun h => c5 (bit_ne h (by decide))), (fun h => c6 (bit_ne h (by decide))), (fun h => c7 (bit_ne h (by decide))), (fun h => c8 (bit_ne h (by decide))), (fun h => c9 (bit_ne h (by decide))), (fun h => c10 (bit_ne h (by decide))), (fun h => c11 (bit_ne h (by decide))), (fun h => c12 (bit_ne h (by decide))), (fun h => c13 (bit_ne h (by decide))), (fun h => c14 (bit_ne h (by decide))), (fun h => c15 (bit_ne h (by decide))), (fun h => c16 (bit_ne h (by decide))), (fun h => c17 (bit_ne h (by decide))), (fun h => c18 (bit_ne h (by decide))), (fun h => c19 (bit_ne h (by decide))), (fun h => c20 (bit_ne h (by decide))), (fun h => c21 (bit_ne h (by decide))), (fun h => c22 (bit_ne h (by decide))), (fun h => c23 (bit_ne h (by decide))), (fun h => c24 (bit_ne h (by decide))), (fun h => c25 (bit_ne h (by decide))), (fun h => c26 (bit_ne h (by decide)))⟩
              · obtain rfl := Option.some.inj ho
                have hsz : 5 < listed.size := by rw [hls]; decide
                have hdep4 : listed.getD 4 false = true := hall ⟨4, .data⟩ (by simp) (by rfl)
                obtain rfl := c4 hdep4
                have hbw := hbW
                refine inv_val (w' := w) (.pointer (some ⟨g2, 2, none⟩)) rfl rfl (by kernel_rfl) ?_
                exact ⟨s112, s113, s114, s115, (.pointer (some ⟨g2, 0, none⟩)), (.pointer (some ⟨g2, 2, none⟩)), s118, s119, s120, s121, s122, s123, s124, s125, s126, s127, s128, s129, s130, s131, s132, s133, s134, s135, s136, s137, s138, rfl, hbw, (fun h => c0 (bit_ne h (by decide))), (fun h h2 => c1 (bit_ne h (by decide)) (bit_ne h2 (by decide))), (fun h => c2 (bit_ne h (by decide))), (fun h => c3 (bit_ne h (by decide))), (fun h => c4 (bit_ne h (by decide))), (fun _ => rfl), (fun h => c6 (bit_ne h (by decide))), (fun h => c7 (bit_ne h (by decide))), (fun h => c8 (bit_ne h (by decide))), (fun h => c9 (bit_ne h (by decide))), (fun h => c10 (bit_ne h (by decide))), (fun h => c11 (bit_ne h (by decide))), (fun h => c12 (bit_ne h (by decide))), (fun h => c13 (bit_ne h (by decide))), (fun h => c14 (bit_ne h (by decide))), (fun h => c15 (bit_ne h (by decide))), (fun h => c16 (bit_ne h (by decide))), (fun h => c17 (bit_ne h (by decide))), (fun h => c18 (bit_ne h (by decide))), (fun h => c19 (bit_ne h (by decide))), (fun h => c20 (bit_ne h (by decide))), (fun h => c21 (bit_ne h (by decide))), (fun h => c22 (bit_ne h (by decide))), (fun h => c23 (bit_ne h (by decide))), (fun h => c24 (bit_ne h (by decide))), (fun h => c25 (bit_ne h (by decide))), (fun h => c26 (bit_ne h (by decide)))⟩
              · obtain rfl := Option.some.inj ho
                have hsz : 6 < listed.size := by rw [hls]; decide
                have hdep5 : listed.getD 5 false = true := hall ⟨5, .data⟩ (by simp) (by rfl)
                obtain rfl := c5 hdep5
                have hbw := hbW
                refine inv_val (w' := w) (.slice sp2 r'.bytes.length cap2) rfl rfl (by have hq := (kk w hbW).1; go_simp) ?_
                exact ⟨s112, s113, s114, s115, s116, (.pointer (some ⟨g2, 2, none⟩)), (.slice sp2 r'.bytes.length cap2), s119, s120, s121, s122, s123, s124, s125, s126, s127, s128, s129, s130, s131, s132, s133, s134, s135, s136, s137, s138, rfl, hbw, (fun h => c0 (bit_ne h (by decide))), (fun h h2 => c1 (bit_ne h (by decide)) (bit_ne h2 (by decide))), (fun h => c2 (bit_ne h (by decide))), (fun h => c3 (bit_ne h (by decide))), (fun h => c4 (bit_ne h (by decide))), (fun h => c5 (bit_ne h (by decide))), (fun _ => rfl), (fun h => c7 (bit_ne h (by decide))), (fun h => c8 (bit_ne h (by decide))), (fun h => c9 (bit_ne h (by decide))), (fun h => c10 (bit_ne h (by decide))), (fun h => c11 (bit_ne h (by decide))), (fun h => c12 (bit_ne h (by decide))), (fun h => c13 (bit_ne h (by decide))), (fun h => c14 (bit_ne h (by decide))), (fun h => c15 (bit_ne h (by decide))), (fun h => c16 (bit_ne h (by decide))), (fun h => c17 (bit_ne h (by decide))), (fun h => c18 (bit_ne h (by decide))), (fun h => c19 (bit_ne h (by decide))), (fun h => c20 (bit_ne h (by decide))), (fun h => c21 (bit_ne h (by decide))), (fun h => c22 (bit_ne h (by decide))), (fun h => c23 (bit_ne h (by decide))), (fun h => c24 (bit_ne h (by decide))), (fun h => c25 (bit_ne h (by decide))), (fun h => c26 (bit_ne h (by decide)))⟩
              · obtain rfl := Option.some.inj ho
                have hsz : 7 < listed.size := by rw [hls]; decide
                have hdep6 : listed.getD 6 false = true := hall ⟨6, .data⟩ (by simp) (by rfl)
                obtain rfl := c6 hdep6
                have hbw := hbW
                refine inv_val (w' := w) (.string (strOfNums d'.bytes)) rfl rfl (by have hq := q1 w (kk w hbW).2.2.2; go_simp) ?_
                exact ⟨s112, s113, s114, s115, s116, s117, (.slice sp2 r'.bytes.length cap2), (.string (strOfNums d'.bytes)), s120, s121, s122, s123, s124, s125, s126, s127, s128, s129, s130, s131, s132, s133, s134, s135, s136, s137, s138, rfl, hbw, (fun h => c0 (bit_ne h (by decide))), (fun h h2 => c1 (bit_ne h (by decide)) (bit_ne h2 (by decide))), (fun h => c2 (bit_ne h (by decide))), (fun h => c3 (bit_ne h (by decide))), (fun h => c4 (bit_ne h (by decide))), (fun h => c5 (bit_ne h (by decide))), (fun h => c6 (bit_ne h (by decide))), (fun _ => rfl), (fun h => c8 (bit_ne h (by decide))), (fun h => c9 (bit_ne h (by decide))), (fun h => c10 (bit_ne h (by decide))), (fun h => c11 (bit_ne h (by decide))), (fun h => c12 (bit_ne h (by decide))), (fun h => c13 (bit_ne h (by decide))), (fun h => c14 (bit_ne h (by decide))), (fun h => c15 (bit_ne h (by decide))), (fun h => c16 (bit_ne h (by decide))), (fun h => c17 (bit_ne h (by decide))), (fun h => c18 (bit_ne h (by decide))), (fun h => c19 (bit_ne h (by decide))), (fun h => c20 (bit_ne h (by decide))), (fun h => c21 (bit_ne h (by decide))), (fun h => c22 (bit_ne h (by decide))), (fun h => c23 (bit_ne h (by decide))), (fun h => c24 (bit_ne h (by decide))), (fun h => c25 (bit_ne h (by decide))), (fun h => c26 (bit_ne h (by decide)))⟩
              · obtain rfl := Option.some.inj ho
                have hsz : 8 < listed.size := by rw [hls]; decide
                have hdep2 : listed.getD 2 false = true := hall ⟨2, .data⟩ (by simp) (by rfl)
                obtain rfl := c2 hdep2
                have hdep7 : listed.getD 7 false = true := hall ⟨7, .data⟩ (by simp) (by rfl)
                obtain rfl := c7 hdep7
                have hbw := hbW
                refine inv_val (w' := w) (.bool false) rfl rfl (by go_simp) ?_
                exact ⟨s112, s113, (.string (strOfNums d'.bytes)), s115, s116, s117, s118, (.string (strOfNums d'.bytes)), (.bool false), s121, s122, s123, s124, s125, s126, s127, s128, s129, s130, s131, s132, s133, s134, s135, s136, s137, s138, rfl, hbw, (fun h => c0 (bit_ne h (by decide))), (fun h h2 => c1 (bit_ne h (by decide)) (bit_ne h2 (by decide))), (fun h => c2 (bit_ne h (by decide))), (fun h => c3 (bit_ne h (by decide))), (fun h => c4 (bit_ne h (by decide))), (fun h => c5 (bit_ne h (by decide))), (fun h => c6 (bit_ne h (by decide))), (fun h => c7 (bit_ne h (by decide))), (fun _ => rfl), (fun h => c9 (bit_ne h (by decide))), (fun h => c10 (bit_ne h (by decide))), (fun h => c11 (bit_ne h (by decide))), (fun h => c12 (bit_ne h (by decide))), (fun h => c13 (bit_ne h (by decide))), (fun h => c14 (bit_ne h (by decide))), (fun h => c15 (bit_ne h (by decide))), (fun h => c16 (bit_ne h (by decide))), (fun h => c17 (bit_ne h (by decide))), (fun h => c18 (bit_ne h (by decide))), (fun h => c19 (bit_ne h (by decide))), (fun h => c20 (bit_ne h (by decide))), (fun h => c21 (bit_ne h (by decide))), (fun h => c22 (bit_ne h (by decide))), (fun h => c23 (bit_ne h (by decide))), (fun h => c24 (bit_ne h (by decide))), (fun h => c25 (bit_ne h (by decide))), (fun h => c26 (bit_ne h (by decide)))⟩
              · obtain rfl := Option.some.inj ho
                have hsz : 9 < listed.size := by rw [hls]; decide
                have hdep8 : listed.getD 8 false = true := hall ⟨8, .data⟩ (by simp) (by rfl)
                obtain rfl := c8 hdep8
                have hbw := hbW
                refine inv_val (w' := w) (.bool false) rfl rfl rfl ?_
                exact ⟨s112, s113, s114, s115, s116, s117, s118, s119, (.bool false), (.bool false), s122, s123, s124, s125, s126, s127, s128, s129, s130, s131, s132, s133, s134, s135, s136, s137, s138, rfl, hbw, (fun h => c0 (bit_ne h (by decide))), (fun h h2 => c1 (bit_ne h (by decide)) (bit_ne h2 (by decide))), (fun h => c2 (bit_ne h (by decide))), (fun h => c3 (bit_ne h (by decide))), (fun h => c4 (bit_ne h (by decide))), (fun h => c5 (bit_ne h (by decide))), (fun h => c6 (bit_ne h (by decide))), (fun h => c7 (bit_ne h (by decide))), (fun h => c8 (bit_ne h (by decide))), (fun _ => rfl), (fun h => c10 (bit_ne h (by decide))), (fun h => c11 (bit_ne h (by decide))), (fun h => c12 (bit_ne h (by decide))), (fun h => c13 (bit_ne h (by decide))), (fun h => c14 (bit_ne h (by decide))), (fun h => c15 (bit_ne h (by decide))), (fun h => c16 (bit_ne h (by decide))), (fun h => c17 (bit_ne h (by decide))), (fun h => c18 (bit_ne h (by decide))), (fun h => c19 (bit_ne h (by decide))), (fun h => c20 (bit_ne h (by decide))), (fun h => c21 (bit_ne h (by decide))), (fun h => c22 (bit_ne h (by decide))), (fun h => c23 (bit_ne h (by decide))), (fun h => c24 (bit_ne h (by decide))), (fun h => c25 (bit_ne h (by decide))), (fun h => c26 (bit_ne h (by decide)))⟩
              · obtain rfl := Option.some.inj ho
                have hsz : 10 < listed.size := by rw [hls]; decide
                have hdep9 : listed.getD 9 false = true := hall ⟨9, .guard⟩ (by simp) (by rfl)
                obtain rfl := c9 hdep9
                have hbw := hbW
                refine inv_valG (w' := w) (.pointer (some ⟨g, 0, none⟩)) rfl (by kernel_rfl) rfl ?_
                exact ⟨s112, s113, s114, s115, s116, s117, s118, s119, s120, (.bool false), (.pointer (some ⟨g, 0, none⟩)), s123, s124, s125, s126, s127, s128, s129, s130, s131, s132, s133, s134, s135, s136, s137, s138, rfl, hbw, (fun h => c0 (bit_ne h (by decide))), (fun h h2 => c1 (bit_ne h (by decide)) (bit_ne h2 (by decide))), (fun h => c2 (bit_ne h (by decide))), (fun h => c3 (bit_ne h (by decide))), (fun h => c4 (bit_ne h (by decide))), (fun h => c5 (bit_ne h (by decide))), (fun h => c6 (bit_ne h (by decide))), (fun h => c7 (bit_ne h (by decide))), (fun h => c8 (bit_ne h (by decide))), (fun h => c9 (bit_ne h (by decide))), (fun _ => rfl), (fun h => c11 (bit_ne h (by decide))), (fun h => c12 (bit_ne h (by decide))), (fun h => c13 (bit_ne h (by decide))), (fun h => c14 (bit_ne h (by decide))), (fun h => c15 (bit_ne h (by decide))), (fun h => c16 (bit_ne h (by decide))), (fun h => c17 (bit_ne h (by decide))), (fun h => c18 (bit_ne h (by decide))), (fun h => c19 (bit_ne h (by decide))), (fun h => c20 (bit_ne h (by decide))), (fun h => c21 (bit_ne h (by decide))), (fun h => c22 (bit_ne h (by decide))), (fun h => c23 (bit_ne h (by decide))), (fun h => c24 (bit_ne h (by decide))), (fun h => c25 (bit_ne h (by decide))), (fun h => c26 (bit_ne h (by decide)))⟩
              · obtain rfl := Option.some.inj ho
                have hsz : 11 < listed.size := by rw [hls]; decide
                have hdep10 : listed.getD 10 false = true := hall ⟨10, .data⟩ (by simp) (by rfl)
                obtain rfl := c10 hdep10
                have hdep9 : listed.getD 9 false = true := hall ⟨9, .guard⟩ (by simp) (by rfl)
                obtain rfl := c9 hdep9
                refine inv_callG 20 #[.pointer (some ⟨g, 0, none⟩)] _ rfl (by kernel_rfl) (by kernel_rfl) (hDe w hbW) ?_
                rintro e w' ⟨rfl, hb⟩
                have hbw : Below B wc w' := hbW.trans (hb.mono (hsB hbW))
                refine ⟨_, rfl, ?_⟩
                exact ⟨s112, s113, s114, s115, s116, s117, s118, s119, s120, (.bool false), (.pointer (some ⟨g, 0, none⟩)), ((.bool d'.dead)), s124, s125, s126, s127, s128, s129, s130, s131, s132, s133, s134, s135, s136, s137, s138, rfl, hbw, (fun h => c0 (bit_ne h (by decide))), (fun h h2 => (c1 (bit_ne h (by decide)) (bit_ne h2 (by decide))).below hb), (fun h => c2 (bit_ne h (by decide))), (fun h => c3 (bit_ne h (by decide))), (fun h => c4 (bit_ne h (by decide))), (fun h => c5 (bit_ne h (by decide))), (fun h => c6 (bit_ne h (by decide))), (fun h => c7 (bit_ne h (by decide))), (fun h => c8 (bit_ne h (by decide))), (fun h => c9 (bit_ne h (by decide))), (fun h => c10 (bit_ne h (by decide))), (fun _ => rfl), (fun h => c12 (bit_ne h (by decide))), (fun h => c13 (bit_ne h (by decide))), (fun h => c14 (bit_ne h (by decide))), (fun h => c15 (bit_ne h (by decide))), (fun h => c16 (bit_ne h (by decide))), (fun h => c17 (bit_ne h (by decide))), (fun h => c18 (bit_ne h (by decide))), (fun h => c19 (bit_ne h (by decide))), (fun h => c20 (bit_ne h (by decide))), (fun h => c21 (bit_ne h (by decide))), (fun h => c22 (bit_ne h (by decide))), (fun h => c23 (bit_ne h (by decide))), (fun h => c24 (bit_ne h (by decide))), (fun h => c25 (bit_ne h (by decide))), (fun h => c26 (bit_ne h (by decide)))⟩
              · obtain rfl := Option.some.inj ho
                have hsz : 12 < listed.size := by rw [hls]; decide
                have hdep9 : listed.getD 9 false = true := hall ⟨9, .guard⟩ (by simp) (by rfl)
                obtain rfl := c9 hdep9
                have hbw := hbW
                refine inv_valG (w' := w) (.pointer (some ⟨g2, 0, none⟩)) rfl (by kernel_rfl) rfl ?_
                exact ⟨s112, s113, s114, s115, s116, s117, s118, s119, s120, (.bool false), s122, s123, (.pointer (some ⟨g2, 0, none⟩)), s125, s126, s127, s128, s129, s130, s131, s132, s133, s134, s135, s136, s137, s138, rfl, hbw, (fun h => c0 (bit_ne h (by decide))), (fun h h2 => c1 (bit_ne h (by decide)) (bit_ne h2 (by decide))), (fun h => c2 (bit_ne h (by decide))), (fun h => c3 (bit_ne h (by decide))), (fun h => c4 (bit_ne h (by decide))), (fun h => c5 (bit_ne h (by decide))), (fun h => c6 (bit_ne h (by decide))), (fun h => c7 (bit_ne h (by decide))), (fun h => c8 (bit_ne h (by decide))), (fun h => c9 (bit_ne h (by decide))), (fun h => c10 (bit_ne h (by decide))), (fun h => c11 (bit_ne h (by decide))), (fun _ => rfl), (fun h => c13 (bit_ne h (by decide))), (fun h => c14 (bit_ne h (by decide))), (fun h => c15 (bit_ne h (by decide))), (fun h => c16 (bit_ne h (by decide))), (fun h => c17 (bit_ne h (by decide))), (fun h => c18 (bit_ne h (by decide))), (fun h => c19 (bit_ne h (by decide))), (fun h => c20 (bit_ne h (by decide))), (fun h => c21 (bit_ne h (by decide))), (fun h => c22 (bit_ne h (by decide))), (fun h => c23 (bit_ne h (by decide))), (fun h => c24 (bit_ne h (by decide))), (fun h => c25 (bit_ne h (by decide))), (fun h => c26 (bit_ne h (by decide)))⟩
              · obtain rfl := Option.some.inj ho
                have hsz : 13 < listed.size := by rw [hls]; decide
                have hdep12 : listed.getD 12 false = true := hall ⟨12, .data⟩ (by simp) (by rfl)
                obtain rfl := c12 hdep12
                have hdep9 : listed.getD 9 false = true := hall ⟨9, .guard⟩ (by simp) (by rfl)
                obtain rfl := c9 hdep9
                have hbw := hbW
                refine inv_valG (w' := w) (.pointer (some ⟨g2, 0, none⟩)) rfl (by kernel_rfl) (by kernel_rfl) ?_
                exact ⟨s112, s113, s114, s115, s116, s117, s118, s119, s120, (.bool false), s122, s123, (.pointer (some ⟨g2, 0, none⟩)), (.pointer (some ⟨g2, 0, none⟩)), s126, s127, s128, s129, s130, s131, s132, s133, s134, s135, s136, s137, s138, rfl, hbw, (fun h => c0 (bit_ne h (by decide))), (fun h h2 => c1 (bit_ne h (by decide)) (bit_ne h2 (by decide))), (fun h => c2 (bit_ne h (by decide))), (fun h => c3 (bit_ne h (by decide))), (fun h => c4 (bit_ne h (by decide))), (fun h => c5 (bit_ne h (by decide))), (fun h => c6 (bit_ne h (by decide))), (fun h => c7 (bit_ne h (by decide))), (fun h => c8 (bit_ne h (by decide))), (fun h => c9 (bit_ne h (by decide))), (fun h => c10 (bit_ne h (by decide))), (fun h => c11 (bit_ne h (by decide))), (fun h => c12 (bit_ne h (by decide))), (fun _ => rfl), (fun h => c14 (bit_ne h (by decide))), (fun h => c15 (bit_ne h (by decide))), (fun h => c16 (bit_ne h (by decide))), (fun h => c17 (bit_ne h (by decide))), (fun h => c18 (bit_ne h (by decide))), (fun h => c19 (bit_ne h (by decide))), (fun h => c20 (bit_ne h (by decide))), (fun h => c21 (bit_ne h (by decide))), (fun h => c22 (bit_ne h (by decide))), (fun h => c23 (bit_ne h (by decide))), (fun h => c24 (bit_ne h (by decide))), (fun h => c25 (bit_ne h (by decide))), (fun h => c26 (bit_ne h (by decide)))⟩
              · obtain rfl := Option.some.inj ho
                have hsz : 14 < listed.size := by rw [hls]; decide
                have hdep13 : listed.getD 13 false = true := hall ⟨13, .data⟩ (by simp) (by rfl)
                obtain rfl := c13 hdep13
                have hdep9 : listed.getD 9 false = true := hall ⟨9, .guard⟩ (by simp) (by rfl)
                obtain rfl := c9 hdep9
                have hbw := hbW
                refine inv_valG (w' := w) (.pointer (some ⟨g2, 5, none⟩)) rfl (by kernel_rfl) (by kernel_rfl) ?_
                exact ⟨s112, s113, s114, s115, s116, s117, s118, s119, s120, (.bool false), s122, s123, s124, (.pointer (some ⟨g2, 0, none⟩)), (.pointer (some ⟨g2, 5, none⟩)), s127, s128, s129, s130, s131, s132, s133, s134, s135, s136, s137, s138, rfl, hbw, (fun h => c0 (bit_ne h (by decide))), (fun h h2 => c1 (bit_ne h (by decide)) (bit_ne h2 (by decide))), (fun h => c2 (bit_ne h (by decide))), (fun h => c3 (bit_ne h (by decide))), (fun h => c4 (bit_ne h (by decide))), (fun h => c5 (bit_ne h (by decide))), (fun h => c6 (bit_ne h (by decide))), (fun h => c7 (bit_ne h (by decide))), (fun h => c8 (bit_ne h (by decide))), (fun h => c9 (bit_ne h (by decide))), (fun h => c10 (bit_ne h (by decide))), (fun h => c11 (bit_ne h (by decide))), (fun h => c12 (bit_ne h (by decide))), (fun h => c13 (bit_ne h (by decide))), (fun _ => rfl), (fun h => c15 (bit_ne h (by decide))), (fun h => c16 (bit_ne h (by decide))), (fun h => c17 (bit_ne h (by decide))), (fun h => c18 (bit_ne h (by decide))), (fun h => c19 (bit_ne h (by decide))), (fun h => c20 (bit_ne h (by decide))), (fun h => c21 (bit_ne h (by decide))), (fun h => c22 (bit_ne h (by decide))), (fun h => c23 (bit_ne h (by decide))), (fun h => c24 (bit_ne h (by decide))), (fun h => c25 (bit_ne h (by decide))), (fun h => c26 (bit_ne h (by decide)))⟩
              · obtain rfl := Option.some.inj ho
                have hsz : 15 < listed.size := by rw [hls]; decide
                have hdep14 : listed.getD 14 false = true := hall ⟨14, .data⟩ (by simp) (by rfl)
                obtain rfl := c14 hdep14
                have hdep9 : listed.getD 9 false = true := hall ⟨9, .guard⟩ (by simp) (by rfl)
                obtain rfl := c9 hdep9
                have hbw := hbW
                refine inv_valG (w' := w) ((.bool d'.dead)) rfl (by kernel_rfl) (by have hq := (kk w hbW).2.1; go_simp) ?_
                exact ⟨s112, s113, s114, s115, s116, s117, s118, s119, s120, (.bool false), s122, s123, s124, s125, (.pointer (some ⟨g2, 5, none⟩)), ((.bool d'.dead)), s128, s129, s130, s131, s132, s133, s134, s135, s136, s137, s138, rfl, hbw, (fun h => c0 (bit_ne h (by decide))), (fun h h2 => c1 (bit_ne h (by decide)) (bit_ne h2 (by decide))), (fun h => c2 (bit_ne h (by decide))), (fun h => c3 (bit_ne h (by decide))), (fun h => c4 (bit_ne h (by decide))), (fun h => c5 (bit_ne h (by decide))), (fun h => c6 (bit_ne h (by decide))), (fun h => c7 (bit_ne h (by decide))), (fun h => c8 (bit_ne h (by decide))), (fun h => c9 (bit_ne h (by decide))), (fun h => c10 (bit_ne h (by decide))), (fun h => c11 (bit_ne h (by decide))), (fun h => c12 (bit_ne h (by decide))), (fun h => c13 (bit_ne h (by decide))), (fun h => c14 (bit_ne h (by decide))), (fun _ => rfl), (fun h => c16 (bit_ne h (by decide))), (fun h => c17 (bit_ne h (by decide))), (fun h => c18 (bit_ne h (by decide))), (fun h => c19 (bit_ne h (by decide))), (fun h => c20 (bit_ne h (by decide))), (fun h => c21 (bit_ne h (by decide))), (fun h => c22 (bit_ne h (by decide))), (fun h => c23 (bit_ne h (by decide))), (fun h => c24 (bit_ne h (by decide))), (fun h => c25 (bit_ne h (by decide))), (fun h => c26 (bit_ne h (by decide)))⟩
              · obtain rfl := Option.some.inj ho
                have hsz : 16 < listed.size := by rw [hls]; decide
                have hdep11 : listed.getD 11 false = true := hall ⟨11, .data⟩ (by simp) (by rfl)
                obtain rfl := c11 hdep11
                have hdep15 : listed.getD 15 false = true := hall ⟨15, .data⟩ (by simp) (by rfl)
                obtain rfl := c15 hdep15
                have hdep9 : listed.getD 9 false = true := hall ⟨9, .guard⟩ (by simp) (by rfl)
                obtain rfl := c9 hdep9
                have hbw := hbW
                refine inv_valG (w' := w) (.bool false) rfl (by kernel_rfl) (by go_simp) ?_
                exact ⟨s112, s113, s114, s115, s116, s117, s118, s119, s120, (.bool false), s122, ((.bool d'.dead)), s124, s125, s126, ((.bool d'.dead)), (.bool false), s129, s130, s131, s132, s133, s134, s135, s136, s137, s138, rfl, hbw, (fun h => c0 (bit_ne h (by decide))), (fun h h2 => c1 (bit_ne h (by decide)) (bit_ne h2 (by decide))), (fun h => c2 (bit_ne h (by decide))), (fun h => c3 (bit_ne h (by decide))), (fun h => c4 (bit_ne h (by decide))), (fun h => c5 (bit_ne h (by decide))), (fun h => c6 (bit_ne h (by decide))), (fun h => c7 (bit_ne h (by decide))), (fun h => c8 (bit_ne h (by decide))), (fun h => c9 (bit_ne h (by decide))), (fun h => c10 (bit_ne h (by decide))), (fun h => c11 (bit_ne h (by decide))), (fun h => c12 (bit_ne h (by decide))), (fun h => c13 (bit_ne h (by decide))), (fun h => c14 (bit_ne h (by decide))), (fun h => c15 (bit_ne h (by decide))), (fun _ => rfl), (fun h => c17 (bit_ne h (by decide))), (fun h => c18 (bit_ne h (by decide))), (fun h => c19 (bit_ne h (by decide))), (fun h => c20 (bit_ne h (by decide))), (fun h => c21 (bit_ne h (by decide))), (fun h => c22 (bit_ne h (by decide))), (fun h => c23 (bit_ne h (by decide))), (fun h => c24 (bit_ne h (by decide))), (fun h => c25 (bit_ne h (by decide))), (fun h => c26 (bit_ne h (by decide)))⟩
              · obtain rfl := Option.some.inj ho
                have hsz : 17 < listed.size := by rw [hls]; decide
                have hdep9 : listed.getD 9 false = true := hall ⟨9, .data⟩ (by simp) (by rfl)
                obtain rfl := c9 hdep9
                have hdep16 : listed.getD 16 false = true := hall ⟨16, .data⟩ (by simp) (by rfl)
                obtain rfl := c16 hdep16
                have hbw := hbW
                refine inv_val (w' := w) (.bool false) rfl rfl (by go_simp) ?_
                exact ⟨s112, s113, s114, s115, s116, s117, s118, s119, s120, (.bool false), s122, s123, s124, s125, s126, s127, (.bool false), (.bool false), s130, s131, s132, s133, s134, s135, s136, s137, s138, rfl, hbw, (fun h => c0 (bit_ne h (by decide))), (fun h h2 => c1 (bit_ne h (by decide)) (bit_ne h2 (by decide))), (fun h => c2 (bit_ne h (by decide))), (fun h => c3 (bit_ne h (by decide))), (fun h => c4 (bit_ne h (by decide))), (fun h => c5 (bit_ne h (by decide))), (fun h => c6 (bit_ne h (by decide))), (fun h => c7 (bit_ne h (by decide))), (fun h => c8 (bit_ne h (by decide))), (fun h => c9 (bit_ne h (by decide))), (fun h => c10 (bit_ne h (by decide))), (fun h => c11 (bit_ne h (by decide))), (fun h => c12 (bit_ne h (by decide))), (fun h => c13 (bit_ne h (by decide))), (fun h => c14 (bit_ne h (by decide))), (fun h => c15 (bit_ne h (by decide))), (fun h => c16 (bit_ne h (by decide))), (fun _ => rfl), (fun h => c18 (bit_ne h (by decide))), (fun h => c19 (bit_ne h (by decide))), (fun h => c20 (bit_ne h (by decide))), (fun h => c21 (bit_ne h (by decide))), (fun h => c22 (bit_ne h (by decide))), (fun h => c23 (bit_ne h (by decide))), (fun h => c24 (bit_ne h (by decide))), (fun h => c25 (bit_ne h (by decide))), (fun h => c26 (bit_ne h (by decide)))⟩
              · obtain rfl := Option.some.inj ho
                have hsz : 18 < listed.size := by rw [hls]; decide
                have hdep17 : listed.getD 17 false = true := hall ⟨17, .data⟩ (by simp) (by rfl)
                obtain rfl := c17 hdep17
                have hbw := hbW
                refine inv_val (w' := w) (.bool false) rfl rfl rfl ?_
                exact ⟨s112, s113, s114, s115, s116, s117, s118, s119, s120, s121, s122, s123, s124, s125, s126, s127, s128, (.bool false), (.bool false), s131, s132, s133, s134, s135, s136, s137, s138, rfl, hbw, (fun h => c0 (bit_ne h (by decide))), (fun h h2 => c1 (bit_ne h (by decide)) (bit_ne h2 (by decide))), (fun h => c2 (bit_ne h (by decide))), (fun h => c3 (bit_ne h (by decide))), (fun h => c4 (bit_ne h (by decide))), (fun h => c5 (bit_ne h (by decide))), (fun h => c6 (bit_ne h (by decide))), (fun h => c7 (bit_ne h (by decide))), (fun h => c8 (bit_ne h (by decide))), (fun h => c9 (bit_ne h (by decide))), (fun h => c10 (bit_ne h (by decide))), (fun h => c11 (bit_ne h (by decide))), (fun h => c12 (bit_ne h (by decide))), (fun h => c13 (bit_ne h (by decide))), (fun h => c14 (bit_ne h (by decide))), (fun h => c15 (bit_ne h (by decide))), (fun h => c16 (bit_ne h (by decide))), (fun h => c17 (bit_ne h (by decide))), (fun _ => rfl), (fun h => c19 (bit_ne h (by decide))), (fun h => c20 (bit_ne h (by decide))), (fun h => c21 (bit_ne h (by decide))), (fun h => c22 (bit_ne h (by decide))), (fun h => c23 (bit_ne h (by decide))), (fun h => c24 (bit_ne h (by decide))), (fun h => c25 (bit_ne h (by decide))), (fun h => c26 (bit_ne h (by decide)))⟩
              · obtain rfl := Option.some.inj ho
                have hsz : 19 < listed.size := by rw [hls]; decide
                have hdep18 : listed.getD 18 false = true := hall ⟨18, .guard⟩ (by simp) (by rfl)
                obtain rfl := c18 hdep18
                have hbw := hbW
                refine inv_valG (w' := w) (.pointer (some ⟨g, 0, none⟩)) rfl (by kernel_rfl) rfl ?_
                exact ⟨s112, s113, s114, s115, s116, s117, s118, s119, s120, s121, s122, s123, s124, s125, s126, s127, s128, s129, (.bool false), (.pointer (some ⟨g, 0, none⟩)), s132, s133, s134, s135, s136, s137, s138, rfl, hbw, (fun h => c0 (bit_ne h (by decide))), (fun h h2 => c1 (bit_ne h (by decide)) (bit_ne h2 (by decide))), (fun h => c2 (bit_ne h (by decide))), (fun h => c3 (bit_ne h (by decide))), (fun h => c4 (bit_ne h (by decide))), (fun h => c5 (bit_ne h (by decide))), (fun h => c6 (bit_ne h (by decide))), (fun h => c7 (bit_ne h (by decide))), (fun h => c8 (bit_ne h (by decide))), (fun h => c9 (bit_ne h (by decide))), (fun h => c10 (bit_ne h (by decide))), (fun h => c11 (bit_ne h (by decide))), (fun h => c12 (bit_ne h (by decide))), (fun h => c13 (bit_ne h (by decide))), (fun h => c14 (bit_ne h (by decide))), (fun h => c15 (bit_ne h (by decide))), (fun h => c16 (bit_ne h (by decide))), (fun h => c17 (bit_ne h (by decide))), (fun h => c18 (bit_ne h (by decide))), (fun _ => rfl), (fun h => c20 (bit_ne h (by decide))), (fun h => c21 (bit_ne h (by decide))), (fun h => c22 (bit_ne h (by decide))), (fun h => c23 (bit_ne h (by decide))), (fun h => c24 (bit_ne h (by decide))), (fun h => c25 (bit_ne h (by decide))), (fun h => c26 (bit_ne h (by decide)))⟩
              · obtain rfl := Option.some.inj ho
                have hsz : 20 < listed.size := by rw [hls]; decide
                have hdep19 : listed.getD 19 false = true := hall ⟨19, .data⟩ (by simp) (by rfl)
                obtain rfl := c19 hdep19
                have hdep18 : listed.getD 18 false = true := hall ⟨18, .guard⟩ (by simp) (by rfl)
                obtain rfl := c18 hdep18
                refine inv_callG 21 #[.pointer (some ⟨g, 0, none⟩)] _ rfl (by kernel_rfl) (by kernel_rfl) (hOp w hbW) ?_
                rintro e w' ⟨rfl, hb⟩
                have hbw : Below B wc w' := hbW.trans (hb.mono (hsB hbW))
                refine ⟨_, rfl, ?_⟩
                exact ⟨s112, s113, s114, s115, s116, s117, s118, s119, s120, s121, s122, s123, s124, s125, s126, s127, s128, s129, (.bool false), (.pointer (some ⟨g, 0, none⟩)), ((.int .i64 d'.ops)), s133, s134, s135, s136, s137, s138, rfl, hbw, (fun h => c0 (bit_ne h (by decide))), (fun h h2 => (c1 (bit_ne h (by decide)) (bit_ne h2 (by decide))).below hb), (fun h => c2 (bit_ne h (by decide))), (fun h => c3 (bit_ne h (by decide))), (fun h => c4 (bit_ne h (by decide))), (fun h => c5 (bit_ne h (by decide))), (fun h => c6 (bit_ne h (by decide))), (fun h => c7 (bit_ne h (by decide))), (fun h => c8 (bit_ne h (by decide))), (fun h => c9 (bit_ne h (by decide))), (fun h => c10 (bit_ne h (by decide))), (fun h => c11 (bit_ne h (by decide))), (fun h => c12 (bit_ne h (by decide))), (fun h => c13 (bit_ne h (by decide))), (fun h => c14 (bit_ne h (by decide))), (fun h => c15 (bit_ne h (by decide))), (fun h => c16 (bit_ne h (by decide))), (fun h => c17 (bit_ne h (by decide))), (fun h => c18 (bit_ne h (by decide))), (fun h => c19 (bit_ne h (by decide))), (fun _ => rfl), (fun h => c21 (bit_ne h (by decide))), (fun h => c22 (bit_ne h (by decide))), (fun h => c23 (bit_ne h (by decide))), (fun h => c24 (bit_ne h (by decide))), (fun h => c25 (bit_ne h (by decide))), (fun h => c26 (bit_ne h (by decide)))⟩
              · obtain rfl := Option.some.inj ho
                have hsz : 21 < listed.size := by rw [hls]; decide
                have hdep18 : listed.getD 18 false = true := hall ⟨18, .guard⟩ (by simp) (by rfl)
                obtain rfl := c18 hdep18
                have hbw := hbW
                refine inv_valG (w' := w) (.pointer (some ⟨g2, 0, none⟩)) rfl (by kernel_rfl) rfl ?_
                exact ⟨s112, s113, s114, s115, s116, s117, s118, s119, s120, s121, s122, s123, s124, s125, s126, s127, s128, s129, (.bool false), s131, s132, (.pointer (some ⟨g2, 0, none⟩)), s134, s135, s136, s137, s138, rfl, hbw, (fun h => c0 (bit_ne h (by decide))), (fun h h2 => c1 (bit_ne h (by decide)) (bit_ne h2 (by decide))), (fun h => c2 (bit_ne h (by decide))), (fun h => c3 (bit_ne h (by decide))), (fun h => c4 (bit_ne h (by decide))), (fun h => c5 (bit_ne h (by decide))), (fun h => c6 (bit_ne h (by decide))), (fun h => c7 (bit_ne h (by decide))), (fun h => c8 (bit_ne h (by decide))), (fun h => c9 (bit_ne h (by decide))), (fun h => c10 (bit_ne h (by decide))), (fun h => c11 (bit_ne h (by decide))), (fun h => c12 (bit_ne h (by decide))), (fun h => c13 (bit_ne h (by decide))), (fun h => c14 (bit_ne h (by decide))), (fun h => c15 (bit_ne h (by decide))), (fun h => c16 (bit_ne h (by decide))), (fun h => c17 (bit_ne h (by decide))), (fun h => c18 (bit_ne h (by decide))), (fun h => c19 (bit_ne h (by decide))), (fun h => c20 (bit_ne h (by decide))), (fun _ => rfl), (fun h => c22 (bit_ne h (by decide))), (fun h => c23 (bit_ne h (by decide))), (fun h => c24 (bit_ne h (by decide))), (fun h => c25 (bit_ne h (by decide))), (fun h => c26 (bit_ne h (by decide)))⟩
              · obtain rfl := Option.some.inj ho
                have hsz : 22 < listed.size := by rw [hls]; decide
                have hdep21 : listed.getD 21 false = true := hall ⟨21, .data⟩ (by simp) (by rfl)
                obtain rfl := c21 hdep21
                have hdep18 : listed.getD 18 false = true := hall ⟨18, .guard⟩ (by simp) (by rfl)
                obtain rfl := c18 hdep18
                have hbw := hbW
                refine inv_valG (w' := w) (.pointer (some ⟨g2, 0, none⟩)) rfl (by kernel_rfl) (by kernel_rfl) ?_
                exact ⟨s112, s113, s114, s115, s116, s117, s118, s119, s120, s121, s122, s123, s124, s125, s126, s127, s128, s129, (.bool false), s131, s132, (.pointer (some ⟨g2, 0, none⟩)), (.pointer (some ⟨g2, 0, none⟩)), s135, s136, s137, s138, rfl, hbw, (fun h => c0 (bit_ne h (by decide))), (fun h h2 => c1 (bit_ne h (by decide)) (bit_ne h2 (by decide))), (fun h => c2 (bit_ne h (by decide))), (fun h => c3 (bit_ne h (by decide))), (fun h => c4 (bit_ne h (by decide))), (fun h => c5 (bit_ne h (by decide))), (fun h => c6 (bit_ne h (by decide))), (fun h => c7 (bit_ne h (by decide))), (fun h => c8 (bit_ne h (by decide))), (fun h => c9 (bit_ne h (by decide))), (fun h => c10 (bit_ne h (by decide))), (fun h => c11 (bit_ne h (by decide))), (fun h => c12 (bit_ne h (by decide))), (fun h => c13 (bit_ne h (by decide))), (fun h => c14 (bit_ne h (by decide))), (fun h => c15 (bit_ne h (by decide))), (fun h => c16 (bit_ne h (by decide))), (fun h => c17 (bit_ne h (by decide))), (fun h => c18 (bit_ne h (by decide))), (fun h => c19 (bit_ne h (by decide))), (fun h => c20 (bit_ne h (by decide))), (fun h => c21 (bit_ne h (by decide))), (fun _ => rfl), (fun h => c23 (bit_ne h (by decide))), (fun h => c24 (bit_ne h (by decide))), (fun h => c25 (bit_ne h (by decide))), (fun h => c26 (bit_ne h (by decide)))⟩
              · obtain rfl := Option.some.inj ho
                have hsz : 23 < listed.size := by rw [hls]; decide
                have hdep22 : listed.getD 22 false = true := hall ⟨22, .data⟩ (by simp) (by rfl)
                obtain rfl := c22 hdep22
                have hdep18 : listed.getD 18 false = true := hall ⟨18, .guard⟩ (by simp) (by rfl)
                obtain rfl := c18 hdep18
                have hbw := hbW
                refine inv_valG (w' := w) (.pointer (some ⟨g2, 4, none⟩)) rfl (by kernel_rfl) (by kernel_rfl) ?_
                exact ⟨s112, s113, s114, s115, s116, s117, s118, s119, s120, s121, s122, s123, s124, s125, s126, s127, s128, s129, (.bool false), s131, s132, s133, (.pointer (some ⟨g2, 0, none⟩)), (.pointer (some ⟨g2, 4, none⟩)), s136, s137, s138, rfl, hbw, (fun h => c0 (bit_ne h (by decide))), (fun h h2 => c1 (bit_ne h (by decide)) (bit_ne h2 (by decide))), (fun h => c2 (bit_ne h (by decide))), (fun h => c3 (bit_ne h (by decide))), (fun h => c4 (bit_ne h (by decide))), (fun h => c5 (bit_ne h (by decide))), (fun h => c6 (bit_ne h (by decide))), (fun h => c7 (bit_ne h (by decide))), (fun h => c8 (bit_ne h (by decide))), (fun h => c9 (bit_ne h (by decide))), (fun h => c10 (bit_ne h (by decide))), (fun h => c11 (bit_ne h (by decide))), (fun h => c12 (bit_ne h (by decide))), (fun h => c13 (bit_ne h (by decide))), (fun h => c14 (bit_ne h (by decide))), (fun h => c15 (bit_ne h (by decide))), (fun h => c16 (bit_ne h (by decide))), (fun h => c17 (bit_ne h (by decide))), (fun h => c18 (bit_ne h (by decide))), (fun h => c19 (bit_ne h (by decide))), (fun h => c20 (bit_ne h (by decide))), (fun h => c21 (bit_ne h (by decide))), (fun h => c22 (bit_ne h (by decide))), (fun _ => rfl), (fun h => c24 (bit_ne h (by decide))), (fun h => c25 (bit_ne h (by decide))), (fun h => c26 (bit_ne h (by decide)))⟩
              · obtain rfl := Option.some.inj ho
                have hsz : 24 < listed.size := by rw [hls]; decide
                have hdep23 : listed.getD 23 false = true := hall ⟨23, .data⟩ (by simp) (by rfl)
                obtain rfl := c23 hdep23
                have hdep18 : listed.getD 18 false = true := hall ⟨18, .guard⟩ (by simp) (by rfl)
                obtain rfl := c18 hdep18
                have hbw := hbW
                refine inv_valG (w' := w) ((.int .i64 d'.ops)) rfl (by kernel_rfl) (by have hq := (kk w hbW).2.2.1; go_simp) ?_
                exact ⟨s112, s113, s114, s115, s116, s117, s118, s119, s120, s121, s122, s123, s124, s125, s126, s127, s128, s129, (.bool false), s131, s132, s133, s134, (.pointer (some ⟨g2, 4, none⟩)), ((.int .i64 d'.ops)), s137, s138, rfl, hbw, (fun h => c0 (bit_ne h (by decide))), (fun h h2 => c1 (bit_ne h (by decide)) (bit_ne h2 (by decide))), (fun h => c2 (bit_ne h (by decide))), (fun h => c3 (bit_ne h (by decide))), (fun h => c4 (bit_ne h (by decide))), (fun h => c5 (bit_ne h (by decide))), (fun h => c6 (bit_ne h (by decide))), (fun h => c7 (bit_ne h (by decide))), (fun h => c8 (bit_ne h (by decide))), (fun h => c9 (bit_ne h (by decide))), (fun h => c10 (bit_ne h (by decide))), (fun h => c11 (bit_ne h (by decide))), (fun h => c12 (bit_ne h (by decide))), (fun h => c13 (bit_ne h (by decide))), (fun h => c14 (bit_ne h (by decide))), (fun h => c15 (bit_ne h (by decide))), (fun h => c16 (bit_ne h (by decide))), (fun h => c17 (bit_ne h (by decide))), (fun h => c18 (bit_ne h (by decide))), (fun h => c19 (bit_ne h (by decide))), (fun h => c20 (bit_ne h (by decide))), (fun h => c21 (bit_ne h (by decide))), (fun h => c22 (bit_ne h (by decide))), (fun h => c23 (bit_ne h (by decide))), (fun _ => rfl), (fun h => c25 (bit_ne h (by decide))), (fun h => c26 (bit_ne h (by decide)))⟩
              · obtain rfl := Option.some.inj ho
                have hsz : 25 < listed.size := by rw [hls]; decide
                have hdep20 : listed.getD 20 false = true := hall ⟨20, .data⟩ (by simp) (by rfl)
                obtain rfl := c20 hdep20
                have hdep24 : listed.getD 24 false = true := hall ⟨24, .data⟩ (by simp) (by rfl)
                obtain rfl := c24 hdep24
                have hdep18 : listed.getD 18 false = true := hall ⟨18, .guard⟩ (by simp) (by rfl)
                obtain rfl := c18 hdep18
                have hbw := hbW
                refine inv_valG (w' := w) (.bool false) rfl (by kernel_rfl) (by go_simp) ?_
                exact ⟨s112, s113, s114, s115, s116, s117, s118, s119, s120, s121, s122, s123, s124, s125, s126, s127, s128, s129, (.bool false), s131, ((.int .i64 d'.ops)), s133, s134, s135, ((.int .i64 d'.ops)), (.bool false), s138, rfl, hbw, (fun h => c0 (bit_ne h (by decide))), (fun h h2 => c1 (bit_ne h (by decide)) (bit_ne h2 (by decide))), (fun h => c2 (bit_ne h (by decide))), (fun h => c3 (bit_ne h (by decide))), (fun h => c4 (bit_ne h (by decide))), (fun h => c5 (bit_ne h (by decide))), (fun h => c6 (bit_ne h (by decide))), (fun h => c7 (bit_ne h (by decide))), (fun h => c8 (bit_ne h (by decide))), (fun h => c9 (bit_ne h (by decide))), (fun h => c10 (bit_ne h (by decide))), (fun h => c11 (bit_ne h (by decide))), (fun h => c12 (bit_ne h (by decide))), (fun h => c13 (bit_ne h (by decide))), (fun h => c14 (bit_ne h (by decide))), (fun h => c15 (bit_ne h (by decide))), (fun h => c16 (bit_ne h (by decide))), (fun h => c17 (bit_ne h (by decide))), (fun h => c18 (bit_ne h (by decide))), (fun h => c19 (bit_ne h (by decide))), (fun h => c20 (bit_ne h (by decide))), (fun h => c21 (bit_ne h (by decide))), (fun h => c22 (bit_ne h (by decide))), (fun h => c23 (bit_ne h (by decide))), (fun h => c24 (bit_ne h (by decide))), (fun _ => rfl), (fun h => c26 (bit_ne h (by decide)))⟩
              · obtain rfl := Option.some.inj ho
                have hsz : 26 < listed.size := by rw [hls]; decide
                have hdep18 : listed.getD 18 false = true := hall ⟨18, .data⟩ (by simp) (by rfl)
                obtain rfl := c18 hdep18
                have hdep25 : listed.getD 25 false = true := hall ⟨25, .data⟩ (by simp) (by rfl)
                obtain rfl := c25 hdep25
                have hbw := hbW
                refine inv_val (w' := w) (.bool false) rfl rfl (by go_simp) ?_
                exact ⟨s112, s113, s114, s115, s116, s117, s118, s119, s120, s121, s122, s123, s124, s125, s126, s127, s128, s129, (.bool false), s131, s132, s133, s134, s135, s136, (.bool false), (.bool false), rfl, hbw, (fun h => c0 (bit_ne h (by decide))), (fun h h2 => c1 (bit_ne h (by decide)) (bit_ne h2 (by decide))), (fun h => c2 (bit_ne h (by decide))), (fun h => c3 (bit_ne h (by decide))), (fun h => c4 (bit_ne h (by decide))), (fun h => c5 (bit_ne h (by decide))), (fun h => c6 (bit_ne h (by decide))), (fun h => c7 (bit_ne h (by decide))), (fun h => c8 (bit_ne h (by decide))), (fun h => c9 (bit_ne h (by decide))), (fun h => c10 (bit_ne h (by decide))), (fun h => c11 (bit_ne h (by decide))), (fun h => c12 (bit_ne h (by decide))), (fun h => c13 (bit_ne h (by decide))), (fun h => c14 (bit_ne h (by decide))), (fun h => c15 (bit_ne h (by decide))), (fun h => c16 (bit_ne h (by decide))), (fun h => c17 (bit_ne h (by decide))), (fun h => c18 (bit_ne h (by decide))), (fun h => c19 (bit_ne h (by decide))), (fun h => c20 (bit_ne h (by decide))), (fun h => c21 (bit_ne h (by decide))), (fun h => c22 (bit_ne h (by decide))), (fun h => c23 (bit_ne h (by decide))), (fun h => c24 (bit_ne h (by decide))), (fun h => c25 (bit_ne h (by decide))), (fun _ => rfl)⟩
            · intro listed a w hall hJ
              obtain ⟨s112, s113, s114, s115, s116, s117, s118, s119, s120, s121, s122, s123, s124, s125, s126, s127, s128, s129, s130, s131, s132, s133, s134, s135, s136, s137, s138, rfl, hbW, c0, c1, c2, c3, c4, c5, c6, c7, c8, c9, c10, c11, c12, c13, c14, c15, c16, c17, c18, c19, c20, c21, c22, c23, c24, c25, c26⟩ := hJ
              obtain rfl := c0 (hall 0 (by decide))
              obtain rfl := c2 (hall 2 (by decide))
              obtain rfl := c3 (hall 3 (by decide))
              obtain rfl := c4 (hall 4 (by decide))
              obtain rfl := c5 (hall 5 (by decide))
              obtain rfl := c6 (hall 6 (by decide))
              obtain rfl := c7 (hall 7 (by decide))
              obtain rfl := c8 (hall 8 (by decide))
              obtain rfl := c9 (hall 9 (by decide))
              obtain rfl := c10 (hall 10 (by decide))
              obtain rfl := c11 (hall 11 (by decide))
              obtain rfl := c12 (hall 12 (by decide))
              obtain rfl := c13 (hall 13 (by decide))
              obtain rfl := c14 (hall 14 (by decide))
              obtain rfl := c15 (hall 15 (by decide))
              obtain rfl := c16 (hall 16 (by decide))
              obtain rfl := c17 (hall 17 (by decide))
              obtain rfl := c18 (hall 18 (by decide))
              obtain rfl := c19 (hall 19 (by decide))
              obtain rfl := c20 (hall 20 (by decide))
              obtain rfl := c21 (hall 21 (by decide))
              obtain rfl := c22 (hall 22 (by decide))
              obtain rfl := c23 (hall 23 (by decide))
              obtain rfl := c24 (hall 24 (by decide))
              obtain rfl := c25 (hall 25 (by decide))
              obtain rfl := c26 (hall 26 (by decide))
              have t2 := t'.later (by rw [← hB]; exact hbW)
              clear t' kk hOp hDe hBy hall q1 q2 eR hrB
              clear hB hbW hsB
              generalize w = w9 at *
              go_wp2
              go_roundw
              case rel => exact ⟨j + 1, h', h2', d', r', by go_num, by omega, t2, hk', hs', by omega⟩
              case measure => simp [intOf]; omega
        · have hbd : decide ((x.b.length : Int) > 500) = true := by simp; omega
          go_wp2
          go_roundw
          case rel => exact ⟨j + 1, h, h2, d, r, by go_num, by omega, t, hk, hs, by omega⟩
          case measure => simp [intOf]; omega
      · have hlt' : decide ((j : Int) < cs.length) = true := by simp; omega
        have h100' : decide ((j : Int) < 100) = false := by simp; omega
        go_wp2
        go_ret
        exact ⟨rfl, t.below⟩
    · have hlt' : decide ((j : Int) < cs.length) = false := by simp; omega
      go_wp2
      go_ret
      exact ⟨rfl, t.below⟩
end Go.Proofs.Ytmomljmjlknolaa
