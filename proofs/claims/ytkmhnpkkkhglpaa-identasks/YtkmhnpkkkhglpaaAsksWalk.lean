/- IdentAsks returns true and turns no old memory, for any ids, place, byte and number. -/
import Derived.Test.YtkmhnpkkkhglpaaFill
import Derived.Test.YtkmhnpkkkhglpaaRbtw
import Derived.Test.YtkmhnpkkkhglpaaRadd
import Derived.Test.YtkmhnpkkkhglpaaAddBad
import Derived.Test.YtkmhnpkkkhglpaaOrderSame
import Derived.Deep.CutRange
namespace Go.Proofs.Ytkmhnpkkkhglpaa
open Go.RowKit

set_option maxRecDepth 20000 in
set_option maxHeartbeats 2000000 in
theorem asks_any (a b c : List Int) (n x k : Int) (w : World) (ha : Id32 a) (hb : Id32 b) (hc : Id32 c) :
    Calls Try.prog 3 #[.agg (v8 a), .agg (v8 b), .agg (v8 c), .int .i64 n, .int .u8 x, .int .i64 k] w fun e w' => e = .returned (.bool true) ∧ Below w.heap.size w w' := by
  have sa := sz23 ha
  have sb := sz23 hb
  have sc := sz23 hc
  have b0 : Below w.heap.size w (((w.alloc (.cells (v8 a) 23)).alloc (.cells (v8 b) 23)).alloc (.cells (v8 c) 23)) := (((Below.refl _ _).alloc (Nat.le_refl _) _).alloc (by simp) _).alloc (by simp; omega) _
  have ra : Row (((w.alloc (.cells (v8 a) 23)).alloc (.cells (v8 b) 23)).alloc (.cells (v8 c) 23)) w.heap.size 23 (v8 a) := ((Row.new w 23 (v8 a)).alloc _).alloc _
  have rb : Row (((w.alloc (.cells (v8 a) 23)).alloc (.cells (v8 b) 23)).alloc (.cells (v8 c) 23)) (w.heap.size + 1) 23 (v8 b) := (Row.newAt _ _ _ _ (by simp)).alloc _
  have rc : Row (((w.alloc (.cells (v8 a) 23)).alloc (.cells (v8 b) 23)).alloc (.cells (v8 c) 23)) (w.heap.size + 1 + 1) 23 (v8 c) := Row.newAt _ _ _ _ (by simp)
  have kn := fun n2 wx => near_any a n2 x wx ha
  go_enter Try.func3, Try.ntmps3
  go_wp2_with (first | (go_at_call 8; with_reducible refine Calls.mono (known_any _) ?_; rintro e wk ⟨rfl, hbk⟩))
  have ra1 := ra.below hbk ra.lt
  have rb1 := rb.below hbk rb.lt
  have rc1 := rc.below hbk rc.lt
  have b1 : Below w.heap.size w wk := b0.trans (hbk.mono b0.size)
  clear ra rb rc b0 hbk
  refine region_tail 12 (by kernel_rfl) (by kernel_rfl) (by kernel_rfl) ?_
  apply Exists.intro
  refine ⟨fun ι _ W hbw hcw => ?_, fun w2 hb2 => ?_⟩
  · have hA : ∀ i, Row (W i) w.heap.size 23 (v8 a) := fun i => ra1.below (hbw i) ra1.lt
    have hBB : ∀ i, Row (W i) (w.heap.size + 1) 23 (v8 b) := fun i => rb1.below (hbw i) rb1.lt
    have hC : ∀ i, Row (W i) (w.heap.size + 1 + 1) 23 (v8 c) := fun i => rc1.below (hbw i) rc1.lt
    simp only [List.take_succ_cons, List.take_zero]
    (refine q_load_rowW 23 (.tmp 6) (by rfl) ?hgd w.heap.size (by rfl) 23 _ _ hA Try.underlying23 rfl sa ?_; (case hgd => rfl); simp only [Act.put, List.setIfInBounds_toArray, List.set_cons_succ, List.set_cons_zero])
    (refine q_load_rowW 23 (.tmp 7) (by rfl) ?hgd (w.heap.size + 1) (by rfl) 23 _ _ hBB Try.underlying23 rfl sb ?_; (case hgd => rfl); simp only [Act.put, List.setIfInBounds_toArray, List.set_cons_succ, List.set_cons_zero])
    (refine q_load_rowW 23 (.tmp 8) (by rfl) ?hgd (w.heap.size + 1 + 1) (by rfl) 23 _ _ hC Try.underlying23 rfl sc ?_; (case hgd => rfl); simp only [Act.put, List.setIfInBounds_toArray, List.set_cons_succ, List.set_cons_zero])
    (refine q_load_rowW 23 (.tmp 6) (by rfl) ?hgd w.heap.size (by rfl) 23 _ _ hA Try.underlying23 rfl sa ?_; (case hgd => rfl); simp only [Act.put, List.setIfInBounds_toArray, List.set_cons_succ, List.set_cons_zero])
    go_big_quiet_step (fail)
    go_big_quiet_step (fail)
    go_big_quiet_step (first | (go_at_call 9; with_reducible exact (kn _ _).mono (fun e w' ⟨he, hw⟩ => ⟨he, hcw _ _ hw⟩)))
    (refine q_load_rowW 23 (.tmp 6) (by rfl) ?hgd w.heap.size (by rfl) 23 _ _ hA Try.underlying23 rfl sa ?_; (case hgd => rfl); simp only [Act.put, List.setIfInBounds_toArray, List.set_cons_succ, List.set_cons_zero])
    go_big_quiet_step (fail)
    go_big_quiet_step (fail)
    go_big_quiet_step (fail)
    go_big_quiet_step (first | (go_at_call 9; with_reducible exact (kn _ _).mono (fun e w' ⟨he, hw⟩ => ⟨he, hcw _ _ hw⟩)))
    exact wpQuiet_nil rfl
  · simp only [List.drop_succ_cons, List.drop_zero]
    have ra2 := ra1.below hb2 ra1.lt
    have b2 : Below w.heap.size w w2 := b1.trans (hb2.mono b1.size)
    clear ra1 rb1 rc1 b1 hb2 kn
    refine build5 (.tmp 23) (.tmp 24) (.tmp 25) (.tmp 29) (.tmp 34) (by rfl) (by rfl) a b c _ _ (by rfl) (by rfl) (by rfl) (by rfl) (by rfl) ha hb hc (id_near ha _ _) (id_near ha _ _) ?_
    intro w3 hb3 hcells
    have id4 := id_near ha (wrap64 (n + 1)) x
    have id3 := id_near ha n x
    generalize nearL a n x = d3 at *
    generalize nearL a (wrap64 (n + 1)) x = d4 at *
    obtain ⟨L, hL⟩ : ∃ L : Nat → List Int, Hid (∀ i, i < 5 → Id32 (L i) ∧ ∀ w', Below w3.heap.size w3 w' → ∀ j, j < 32 → w'.cell? ⟨w2.heap.size, i * 32 + j, none⟩ = some (.int .u8 (gi (L i) j))) := by
      refine ⟨fun i => [a, b, c, d3, d4].getD i [], show (∀ _, _) from fun i hi => ?_⟩
      have hd : ∀ w', Below w3.heap.size w3 w' → ∀ l, [a, b, c, d3, d4][i]? = some l → ∀ j, j < 32 → w'.cell? ⟨w2.heap.size, i * 32 + j, none⟩ = some (.int .u8 (gi l j)) := fun w' hw l hl j hj => by
        have h1 := hcells i l hl j hj
        have h2 := block_lt_of_cell h1
        rw [hw.cell (p := ⟨w2.heap.size, i * 32 + j, none⟩) h2]; exact h1
      obtain rfl | rfl | rfl | rfl | rfl : i = 0 ∨ i = 1 ∨ i = 2 ∨ i = 3 ∨ i = 4 := by omega
      · exact ⟨ha, fun w' hw j hj => hd w' hw a rfl j hj⟩
      · exact ⟨hb, fun w' hw j hj => hd w' hw b rfl j hj⟩
      · exact ⟨hc, fun w' hw j hj => hd w' hw c rfl j hj⟩
      · exact ⟨id3, fun w' hw j hj => hd w' hw d3 rfl j hj⟩
      · exact ⟨id4, fun w' hw j hj => hd w' hw d4 rfl j hj⟩
    have ra3 := ra2.below hb3 ra2.lt
    have b3 : Below w.heap.size w w3 := b2.trans (hb3.mono b2.size)
    generalize w2.heap.size = g at hL ⊢
    clear hcells hb3 ra2 b2 id3 id4 sb sc
    simp only [Act.put, List.setIfInBounds_toArray, List.set_cons_succ, List.set_cons_zero]
    go_wp2
    go_loopw [14] (fun i wr => ∃ p : Nat, p ≤ 5 ∧ i = .int .i64 p ∧ Below w3.heap.size w3 wr) (fun i _ => 5 - (intOf i).toNat)
    case atStart => exact ⟨0, by omega, rfl, Below.refl _ _⟩
    case round =>
      obtain ⟨p, hp, rfl, hbp⟩ := hrel
      by_cases hp5 : p < 5
      · obtain ⟨ip, cp0⟩ := hL.out p hp5
        have g1 : decide ((p : Int) < 5) = true := by simp; omega
        go_wp2
        obtain ⟨wo, rfl⟩ : ∃ wo : World, wo = wr := ⟨_, rfl⟩
        go_loopw [15] (fun i wr => ∃ q : Nat, q ≤ 5 ∧ i = .int .i64 q ∧ Below w3.heap.size w3 wr) (fun i _ => 5 - (intOf i).toNat)
        case atStart => exact ⟨0, by omega, rfl, hbp⟩
        case round =>
          obtain ⟨q, hq, rfl, hbq⟩ := hrel
          by_cases hq5 : q < 5
          · obtain ⟨iq, cq0⟩ := hL.out q hq5
            have g2 : decide ((q : Int) < 5) = true := by simp; omega
            have kl := fun wx => less_any (L p) (L q) wx ip iq
            have kr := fun wx => rless_any (L p) (L q) wx ip iq
            generalize decide (num (L p) < num (L q)) = t at kl kr
            go_wp2
            refine region_tail 18 (by kernel_rfl) (by kernel_rfl) (by kernel_rfl) ?_
            apply Exists.intro
            refine ⟨fun ι _ W hbw hcw => ?_, fun w5 hb5 => ?_⟩
            · have cp := fun (i : ι) => cp0 (W i) (hbq.trans ((hbw i).mono hbq.size))
              have cq := fun (i : ι) => cq0 (W i) (hbq.trans ((hbw i).mono hbq.size))
              simp only [List.take_succ_cons, List.take_zero]
              go_big_quiet_step (fail)
              go_big_quiet_step (fail)
              go_big_quiet_step (fail)
              refine q_load_midW (.tmp 46) (by rfl) ?hgd g (p * 32) (by rfl) (L p) ip cp ?_
              (case hgd => rfl)
              simp only [Act.put, List.setIfInBounds_toArray, List.set_cons_succ, List.set_cons_zero]
              go_big_quiet_step (fail)
              go_big_quiet_step (fail)
              go_big_quiet_step (fail)
              refine q_load_midW (.tmp 50) (by rfl) ?hgd g (q * 32) (by rfl) (L q) iq cq ?_
              (case hgd => rfl)
              simp only [Act.put, List.setIfInBounds_toArray, List.set_cons_succ, List.set_cons_zero]
              go_big_quiet_step (first | (go_at_call 10; with_reducible exact (kl _).mono (fun e w' ⟨he, hw⟩ => ⟨he, hcw _ _ hw⟩)))
              go_big_quiet_step (fail)
              go_big_quiet_step (fail)
              go_big_quiet_step (fail)
              refine q_load_midW (.tmp 55) (by rfl) ?hgd g (p * 32) (by rfl) (L p) ip cp ?_
              (case hgd => rfl)
              simp only [Act.put, List.setIfInBounds_toArray, List.set_cons_succ, List.set_cons_zero]
              go_big_quiet_step (fail)
              go_big_quiet_step (fail)
              go_big_quiet_step (fail)
              refine q_load_midW (.tmp 59) (by rfl) ?hgd g (q * 32) (by rfl) (L q) iq cq ?_
              (case hgd => rfl)
              simp only [Act.put, List.setIfInBounds_toArray, List.set_cons_succ, List.set_cons_zero]
              go_big_quiet_step (first | (go_at_call 11; with_reducible exact (kr _).mono (fun e w' ⟨he, hw⟩ => ⟨he, hcw _ _ hw⟩)))
              exact wpQuiet_nil rfl
            · simp only [List.drop_succ_cons, List.drop_zero]
              have hb6 := hbq.trans (hb5.mono hbq.size)
              clear kl kr hb5
              cases t
              all_goals
                go_wp2
                obtain ⟨wp, rfl⟩ : ∃ wp : World, wp = wr := ⟨_, rfl⟩
                go_loopw [16] (fun i wr => ∃ r : Nat, r ≤ 5 ∧ i = .int .i64 r ∧ Below w3.heap.size w3 wr) (fun i _ => 5 - (intOf i).toNat)
                case atStart => exact ⟨0, by omega, rfl, hb6⟩
                case round =>
                  obtain ⟨r, hr, rfl, hbr⟩ := hrel
                  by_cases hr5 : r < 5
                  · obtain ⟨ir, cr0⟩ := hL.out r hr5
                    have g3 : decide ((r : Int) < 5) = true := by simp; omega
                    have k1 := fun wx => between_any (L p) (L q) (L r) wx ip iq ir
                    have k2 := fun wx => rbetween_any (L p) (L q) (L r) wx ip iq ir
                    have k3 := fun wx => within_any (L p) (L q) (L r) wx ip iq ir
                    have k4 := fun wx => rwithin_any (L p) (L q) (L r) wx ip iq ir
                    generalize btw (L p) (L q) (L r) = u at k1 k2
                    generalize win (L p) (L q) (L r) = v at k3 k4
                    go_wp2
                    cases u <;> cases v
                    all_goals
                      refine region_tail 55 (by kernel_rfl) (by kernel_rfl) (by kernel_rfl) ?_
                      apply Exists.intro
                      refine ⟨fun ι _ W hbw hcw => ?_, fun w7 hb7 => ?_⟩
                      · have cp := fun (i : ι) => cp0 (W i) (hbr.trans ((hbw i).mono hbr.size))
                        have cq := fun (i : ι) => cq0 (W i) (hbr.trans ((hbw i).mono hbr.size))
                        have cr := fun (i : ι) => cr0 (W i) (hbr.trans ((hbw i).mono hbr.size))
                        simp only [List.take_succ_cons, List.take_zero]
                        go_big_quiet_step (fail)
                        go_big_quiet_step (fail)
                        go_big_quiet_step (fail)
                        refine q_load_midW (.tmp 69) (by rfl) ?hgd g (p * 32) (by rfl) (L p) ip cp ?_
                        (case hgd => rfl)
                        simp only [Act.put, List.setIfInBounds_toArray, List.set_cons_succ, List.set_cons_zero]
                        go_big_quiet_step (fail)
                        go_big_quiet_step (fail)
                        go_big_quiet_step (fail)
                        refine q_load_midW (.tmp 73) (by rfl) ?hgd g (q * 32) (by rfl) (L q) iq cq ?_
                        (case hgd => rfl)
                        simp only [Act.put, List.setIfInBounds_toArray, List.set_cons_succ, List.set_cons_zero]
                        go_big_quiet_step (fail)
                        go_big_quiet_step (fail)
                        go_big_quiet_step (fail)
                        refine q_load_midW (.tmp 77) (by rfl) ?hgd g (r * 32) (by rfl) (L r) ir cr ?_
                        (case hgd => rfl)
                        simp only [Act.put, List.setIfInBounds_toArray, List.set_cons_succ, List.set_cons_zero]
                        go_big_quiet_step (first | (go_at_call 12; with_reducible exact (k1 _).mono (fun e w' ⟨he, hw⟩ => ⟨he, hcw _ _ hw⟩)))
                        go_big_quiet_step (fail)
                        go_big_quiet_step (fail)
                        go_big_quiet_step (fail)
                        refine q_load_midW (.tmp 82) (by rfl) ?hgd g (p * 32) (by rfl) (L p) ip cp ?_
                        (case hgd => rfl)
                        simp only [Act.put, List.setIfInBounds_toArray, List.set_cons_succ, List.set_cons_zero]
                        go_big_quiet_step (fail)
                        go_big_quiet_step (fail)
                        go_big_quiet_step (fail)
                        refine q_load_midW (.tmp 86) (by rfl) ?hgd g (q * 32) (by rfl) (L q) iq cq ?_
                        (case hgd => rfl)
                        simp only [Act.put, List.setIfInBounds_toArray, List.set_cons_succ, List.set_cons_zero]
                        go_big_quiet_step (fail)
                        go_big_quiet_step (fail)
                        go_big_quiet_step (fail)
                        refine q_load_midW (.tmp 90) (by rfl) ?hgd g (r * 32) (by rfl) (L r) ir cr ?_
                        (case hgd => rfl)
                        simp only [Act.put, List.setIfInBounds_toArray, List.set_cons_succ, List.set_cons_zero]
                        go_big_quiet_step (first | (go_at_call 13; with_reducible exact (k2 _).mono (fun e w' ⟨he, hw⟩ => ⟨he, hcw _ _ hw⟩)))
                        go_big_quiet_step (fail)
                        go_big_quiet_step (fail)
                        go_big_quiet_step (fail)
                        go_big_quiet_step (fail)
                        go_big_quiet_step (fail)
                        refine q_load_midW (.tmp 97) (by rfl) ?hgd g (p * 32) (by rfl) (L p) ip cp ?_
                        (case hgd => rfl)
                        simp only [Act.put, List.setIfInBounds_toArray, List.set_cons_succ, List.set_cons_zero]
                        go_big_quiet_step (fail)
                        go_big_quiet_step (fail)
                        go_big_quiet_step (fail)
                        refine q_load_midW (.tmp 101) (by rfl) ?hgd g (q * 32) (by rfl) (L q) iq cq ?_
                        (case hgd => rfl)
                        simp only [Act.put, List.setIfInBounds_toArray, List.set_cons_succ, List.set_cons_zero]
                        go_big_quiet_step (fail)
                        go_big_quiet_step (fail)
                        go_big_quiet_step (fail)
                        refine q_load_midW (.tmp 105) (by rfl) ?hgd g (r * 32) (by rfl) (L r) ir cr ?_
                        (case hgd => rfl)
                        simp only [Act.put, List.setIfInBounds_toArray, List.set_cons_succ, List.set_cons_zero]
                        go_big_quiet_step (first | (go_at_call 14; with_reducible exact (k3 _).mono (fun e w' ⟨he, hw⟩ => ⟨he, hcw _ _ hw⟩)))
                        go_big_quiet_step (fail)
                        go_big_quiet_step (fail)
                        go_big_quiet_step (fail)
                        refine q_load_midW (.tmp 110) (by rfl) ?hgd g (p * 32) (by rfl) (L p) ip cp ?_
                        (case hgd => rfl)
                        simp only [Act.put, List.setIfInBounds_toArray, List.set_cons_succ, List.set_cons_zero]
                        go_big_quiet_step (fail)
                        go_big_quiet_step (fail)
                        go_big_quiet_step (fail)
                        refine q_load_midW (.tmp 114) (by rfl) ?hgd g (q * 32) (by rfl) (L q) iq cq ?_
                        (case hgd => rfl)
                        simp only [Act.put, List.setIfInBounds_toArray, List.set_cons_succ, List.set_cons_zero]
                        go_big_quiet_step (fail)
                        go_big_quiet_step (fail)
                        go_big_quiet_step (fail)
                        refine q_load_midW (.tmp 118) (by rfl) ?hgd g (r * 32) (by rfl) (L r) ir cr ?_
                        (case hgd => rfl)
                        simp only [Act.put, List.setIfInBounds_toArray, List.set_cons_succ, List.set_cons_zero]
                        go_big_quiet_step (first | (go_at_call 15; with_reducible exact (k4 _).mono (fun e w' ⟨he, hw⟩ => ⟨he, hcw _ _ hw⟩)))
                        go_big_quiet_step (fail)
                        exact wpQuiet_nil rfl
                      · simp only [List.drop_succ_cons, List.drop_zero]
                        go_wp2
                        go_roundw
                        case rel => exact ⟨r + 1, by omega, by go_num, hbr.trans (hb7.mono hbr.size)⟩
                        case measure => simp [intOf]; omega
                  · obtain rfl : r = 5 := by omega
                    go_wp2
                    go_roundw
                    case rel => exact ⟨q + 1, by omega, by go_num, hbr⟩
                    case measure => simp [intOf]; omega
          · obtain rfl : q = 5 := by omega
            go_wp2
            go_roundw
            case rel => exact ⟨p + 1, by omega, by go_num, hbq⟩
            case measure => simp [intOf]; omega
      · obtain rfl : p = 5 := by omega
        obtain ⟨R, ev, hR, k16, k17⟩ : ∃ (R : List Int) (ev : Int), Id32 R ∧ (∀ wx, Calls Try.prog 16 #[.agg (v8 a), .int .i64 k] wx fun e w' => e = .returned (.tuple #[.agg (v8 R), .int .i64 ev]) ∧ Below wx.heap.size wx w') ∧ (∀ wx, Calls Try.prog 17 #[.agg (v8 a), .int .i64 k] wx fun e w' => e = .returned (.tuple #[.agg (v8 R), .int .i64 ev]) ∧ Below wx.heap.size wx w') := by
          by_cases hk : k < 0 ∨ 255 < k
          · exact ⟨zero32, 1, id_zero, fun wx => add_bad a k wx hk, fun wx => radd_bad a k wx hk⟩
          · obtain ⟨j, rfl⟩ : ∃ j : Nat, k = j := ⟨k.toNat, by omega⟩
            exact ⟨addL a j, 0, id_add a j, fun wx => add_any a j wx ha (by omega), fun wx => radd_any a j wx ha (by omega)⟩
        have sR := sz23 hR
        have zR : (v8 zero32).size = (v8 R).size := by rw [v8_size, v8_size, hR.1, id_zero.1]
        have r1 := ra3.below hbp ra3.lt
        have b4 : Below w.heap.size w wr := b3.trans (hbp.mono b3.size)
        clear ra3 b3 hL hbp hp hp5
        go_upto_region 18 with (first | (refine load_rowW ?hw 23 (.tmp 6) (by rfl) w.heap.size (by rfl) 23 (v8 a) (0, 0) _ r1 Try.underlying23 rfl sa ?_; (case hw => rfl)) | (go_at_call 16; with_reducible refine Calls.mono (k16 _) ?_; rintro e wx ⟨rfl, hb_wx⟩) | (refine store_row0 23 (.tmp 17) (.tmp 127) (by rfl) (by rfl) (by rfl) wx.heap.size (v8 R) (by rfl) (by rfl) 23 _ (Row.new wx 23 (v8 zero32)) sR zR (v8_one _) ?_))
        change Code.wp _ _ _ _ ((wx.alloc (.cells (v8 zero32) 23)).setRow wx.heap.size (v8 R))
        have b5 : Below w.heap.size w wx := b4.trans (hb_wx.mono b4.size)
        have l1 := (r1.below hb_wx r1.lt).lt
        have r2 := ((r1.below hb_wx r1.lt).alloc (.cells (v8 zero32) 23)).setRowOther (g := wx.heap.size) (by omega) (v8 R)
        have rx := (Row.new wx 23 (v8 zero32)).setRow (v8 R)
        have b6 : Below w.heap.size w ((wx.alloc (.cells (v8 zero32) 23)).setRow wx.heap.size (v8 R)) := below_setRow (b5.alloc b5.size _) b5.size _
        obtain ⟨gx, hgx⟩ : ∃ gx, gx = wx.heap.size := ⟨_, rfl⟩
        rw [← hgx] at r2 rx b6 ⊢
        generalize (wx.alloc (.cells (v8 zero32) 23)).setRow gx (v8 R) = w6 at r2 rx b6 ⊢
        clear hgx b5 b4 r1 hb_wx k16 l1
        go_upto_region 19 with (first | (refine load_rowW ?hw 23 (.tmp 6) (by rfl) w.heap.size (by rfl) 23 (v8 a) (0, 0) _ r2 Try.underlying23 rfl sa ?_; (case hw => rfl)) | (go_at_call 17; with_reducible refine Calls.mono (k17 _) ?_; rintro e wy ⟨rfl, hb_wy⟩) | (refine store_row0 23 (.tmp 19) (.tmp 133) (by rfl) (by rfl) (by rfl) wy.heap.size (v8 R) (by rfl) (by rfl) 23 _ (Row.new wy 23 (v8 zero32)) sR zR (v8_one _) ?_))
        change Code.wp _ _ _ _ ((wy.alloc (.cells (v8 zero32) 23)).setRow wy.heap.size (v8 R))
        have b7 : Below w.heap.size w wy := b6.trans (hb_wy.mono b6.size)
        have l2 := (rx.below hb_wy rx.lt).lt
        have rx2 := ((rx.below hb_wy rx.lt).alloc (.cells (v8 zero32) 23)).setRowOther (g := wy.heap.size) (by omega) (v8 R)
        have ry2 := (Row.new wy 23 (v8 zero32)).setRow (v8 R)
        have b8 : Below w.heap.size w ((wy.alloc (.cells (v8 zero32) 23)).setRow wy.heap.size (v8 R)) := below_setRow (b7.alloc b7.size _) b7.size _
        obtain ⟨gy, hgy⟩ : ∃ gy, gy = wy.heap.size := ⟨_, rfl⟩
        rw [← hgy] at rx2 ry2 b8 ⊢
        generalize (wy.alloc (.cells (v8 zero32) 23)).setRow gy (v8 R) = w8 at rx2 ry2 b8 ⊢
        clear hgy b7 b6 r2 rx hb_wy k17 l2
        have qe := eql23 hR hR
        simp only [decide_true] at qe
        go_wp2_with (first | (refine load_rowW ?hw 23 (.tmp 17) (by rfl) gx (by rfl) 23 (v8 R) (0, 0) _ rx2 Try.underlying23 rfl sR ?_; (case hw => rfl)) | (refine load_rowW ?hw 23 (.tmp 19) (by rfl) gy (by rfl) 23 (v8 R) (0, 0) _ ry2 Try.underlying23 rfl sR ?_; (case hw => rfl)))
        go_ret
        exact ⟨rfl, b8⟩
end Go.Proofs.Ytkmhnpkkkhglpaa
