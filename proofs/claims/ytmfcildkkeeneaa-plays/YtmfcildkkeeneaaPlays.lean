/- LedgerPlays returns true and turns no old memory, for any number and any calls. No condition. -/
import Derived.Test.YtmfcildkkeeneaaLTwo
import Derived.Deep.CutBlock
import Derived.Deep.CutRange
import Derived.Outline
namespace Go.Proofs.Ytmfcildkkeeneaa
open Go Go.RowKit
set_option maxRecDepth 20000 in
set_option maxHeartbeats 8000000 in
theorem plays_any (room : Int) (cs : List Cl) (ca : Option Addr) (cap : Nat) (w : World) (hC : Clls w ca cs) (hl : cs.length ≤ 9223372036854775807) :
    Calls Try.prog 3 #[.int .i64 room, .slice ca cs.length cap] w fun e w' => e = .returned (.bool true) ∧ Below w.heap.size w w' := by
  have hq0 := Int.emod_nonneg room (show (400 : Int) ≠ 0 by decide)
  have hq1 := Int.emod_lt_of_pos room (show (0 : Int) < 400 by decide)
  have hw1 := fun w1 => within_any room 400 w1 (by decide) (by decide)
  obtain ⟨qr, hq⟩ : ∃ q : Int, room % 400 = q := ⟨_, rfl⟩
  rw [hq] at hq0 hq1 hw1
  clear hq
  have hr : 1 ≤ 1 + qr ∧ 1 + qr ≤ 16777216 := by omega
  have e1 := fun w1 => new_any (1 + qr) w1 hr
  have e2 := fun w1 => rnew_any (1 + qr) w1 hr
  have e3 := fun g w1 hd => open_any (dNew (1 + qr)) g g w1 hd (ok_new hr) (fun x hx => by cases hx) rfl
  have e4 := fun g w1 hd => ropen_any (dNew (1 + qr)) g g w1 hd (Nat.zero_le _) (fun x hx => by cases hx) rfl
  have f1 := ok_new hr
  have f2 := sim_new (1 + qr)
  have f3 : By (dNew (1 + qr)).bytes := fun x hx => by cases hx
  have f4 : (dNew (1 + qr)).ops = 0 := rfl
  have f5 : grL (dNew (1 + qr)).bytes = 0 := grL_short (show 0 < 8 by decide)
  simp only [f5] at e3 e4
  clear f5 hr
  generalize dNew (1 + qr) = d0 at *
  go_enter Try.func3, Try.ntmps3
  go_wp2_with (first | (go_at_call 7; (with_reducible refine Calls.mono (known_any _) ?_); rintro e w1 ⟨rfl, hb1⟩) | (go_at_call 8; (with_reducible refine Calls.mono (hw1 _) ?_); rintro e wz ⟨rfl, hw⟩; obtain rfl := hw.symm; clear hw) | (go_at_call 9; (with_reducible refine Calls.mono (e1 _) ?_); rintro e w2 ⟨rfl, hD2, hb2⟩) | (go_at_call 10; (with_reducible refine Calls.mono (e2 _) ?_); rintro e w3 ⟨rfl, hD3, hb3⟩; have hD23 : Dk w3 _ _ d0 := hD2.fr (Fr.of_below (l := []) hb3) (by simp) (by simp)) | (go_at_call 11; (with_reducible refine Calls.mono (e3 _ _ hD23) ?_); rintro e w4 ⟨a, rfl, ha4, hA4, hb4⟩; have hD34 : Rk w4 _ _ d0 := hD3.fr (Fr.of_below (l := []) hb4) (by simp) (by simp)) | (go_at_call 12; (with_reducible refine Calls.mono (e4 _ _ hD34) ?_); rintro e w5 ⟨b, rfl, ha5, hA5, hb5⟩))
  have t0 : Lv w w5 w1.heap.size w1.heap.size a w2.heap.size w2.heap.size b d0 d0 0 d0.ops 0 := by
    have l2 := hD2.lt.1
    have s1 := hb1.size
    have s2 := hb2.size
    have s3 := hb3.size
    have s4 := hb4.size
    have hbl : Below w.heap.size w w3 := (hb1.trans (hb2.mono s1)).trans (hb3.mono (by omega))
    have t3 : Two w w3 w1.heap.size w1.heap.size w2.heap.size w2.heap.size d0 d0 := ⟨hD23, hD3, hbl, s1, s1, by omega, by omega, by omega, by omega, by omega, by omega⟩
    exact ⟨(t3.later hb4).later hb5, hA4.below hb5 hA4.lt, hA5, by omega, by omega⟩
  generalize w1.heap.size = g at *
  generalize w2.heap.size = g2 at *
  clear hb1 hb2 hb3 hb4 hb5 hD2 hD3 hD23 hD34 hA4 hA5 ha4 ha5 e1 e2 e3 e4 hw1
  go_loopw [9, 11, 13] (fun l mm i wr => ∃ (j h a h2 b : Nat) (d r : D) (last : Int), l = .pointer (some ⟨a, 0, none⟩) ∧ mm = .pointer (some ⟨b, 0, none⟩) ∧ i = .int .i64 j ∧ j ≤ 60 ∧ Lv w wr g h a g2 h2 b d r last d.ops last ∧ Ok d ∧ Sim d r ∧ By d.bytes ∧ (0 ≤ last ∧ last ≤ 4294967295) ∧ d.ops ≤ 2 * (j : Int)) (fun _ _ i _ => 60 - (intOf i).toNat)
  case atStart => exact ⟨0, g, a, g2, b, d0, d0, 0, rfl, rfl, rfl, by omega, t0, f1, f2, f3, by omega, by omega⟩
  case round =>
    obtain ⟨j, h, a, h2, b, d, r, last, rfl, rfl, rfl, hj, tv, hk, hs, hby, hl0, hops⟩ := hrel
    clear t0 f1 f2 f3 f4
    by_cases hlt : j < cs.length
    · by_cases h60 : j < 60
      · obtain ⟨bb, off, rfl, hc⟩ := hC (by omega)
        obtain ⟨q, c, hrg, hbx, hnil, hbm, hn1, hn2, hbyx⟩ := hc j hlt
        clear hc
        generalize cs.getD j default = x at *
        have hrg1 := keep_range tv.two.below hrg
        have hqb : ∀ a, q = some a → 0 < x.b.length → a.block < w.heap.size := fun a ha hp => by
          obtain ⟨b', o', e, h1⟩ := hbx hp
          rw [ha] at e
          injection e with e
          have := block_lt_of_cell (h1 0 hp)
          rw [e]; exact this
        go_upto_region 14 with (first | (refine wpList_load_mid ?hw 40 (.tmp 66) (by rfl) bb (off + j * 3) (by rfl) [.int .i64 x.kind, .int .i64 x.n, .slice q x.b.length c] _ hrg1 Try.underlying40 rfl ?hi ?_; (case hw => rfl); (case hi => exact info40)) | (refine store_row0 40 (.tmp 14) (.tmp 67) (by rfl) (by rfl) (by rfl) wr.heap.size #[.int .i64 x.kind, .int .i64 x.n, .slice q x.b.length c] (by rfl) (by rfl) 40 #[.int .i64 0, .int .i64 0, .slice none 0 0] ?hrow ?hi (by rfl) (by rfl) ?_; (case hrow => exact Row.new wr 40 #[.int .i64 0, .int .i64 0, .slice none 0 0]); (case hi => exact info40)))
        have hm := Row.new wr 40 #[.int .i64 x.kind, .int .i64 x.n, .slice q x.b.length c]
        have ba : Below wr.heap.size wr (wr.alloc (.cells #[.int .i64 x.kind, .int .i64 x.n, .slice q x.b.length c] 40)) := (Below.refl _ _).alloc (Nat.le_refl _) _
        replace tv := tv.later ba
        generalize hM : wr.heap.size = m at *
        generalize wr.alloc (.cells #[.int .i64 x.kind, .int .i64 x.n, .slice q x.b.length c] 40) = w5 at *
        have t : Lt w w5 m #[.int .i64 x.kind, .int .i64 x.n, .slice q x.b.length c] g h a g2 h2 b d r last d.ops last := ⟨tv, hm⟩
        clear ba hM hrg1 hrg tv
        have m0 : w5.cell? ⟨m, 0, none⟩ = some (.int .i64 x.kind) := hm.cell
        have m1 : w5.cell? ⟨m, 1, none⟩ = some (.int .i64 x.n) := hm.cell
        have m2 : w5.cell? ⟨m, 2, none⟩ = some (.slice q x.b.length c) := hm.cell
        clear hm
        by_cases hb30 : x.b.length ≤ 30
        · have hbd : decide ((x.b.length : Int) > 30) = false := by simp; omega
          have z0 := Int.emod_nonneg x.kind (show (6 : Int) ≠ 0 by decide)
          have z1 := Int.emod_lt_of_pos x.kind (show (0 : Int) < 6 by decide)
          have hwi := fun w1 => within_any x.kind 6 w1 (by decide) (by decide)
          obtain ⟨k, hkk⟩ : ∃ k : Int, x.kind % 6 = k := ⟨_, rfl⟩
          rw [hkk] at hwi z0 z1
          clear hkk
          have hrb := rb_of hk hs
          have hM1 : ∀ wx h1 a1 h3 b1 d1 r1 l1 o1 l2, Lt w wx m #[.int .i64 x.kind, .int .i64 x.n, .slice q x.b.length c] g h1 a1 g2 h3 b1 d1 r1 l1 o1 l2 → wx.cell? ⟨m, 1, none⟩ = some (.int .i64 x.n) ∧ wx.cell? ⟨m, 2, none⟩ = some (.slice q x.b.length c) := fun wx h1 a1 h3 b1 d1 r1 l1 o1 l2 t1 => ⟨t1.rowM.cell, t1.rowM.cell⟩
          have hfit := hk.fits
          have hrm := hk.room
          generalize (#[.int .i64 x.kind, .int .i64 x.n, .slice q x.b.length c] : Array Value) = M at *
          go_upto_block 2 with (first | (go_at_call 8; (with_reducible refine Calls.mono (hwi _) ?_); rintro e wz ⟨rfl, hw⟩; obtain rfl := hw.symm; clear hw))
          go_cut [9, 10, 11, 12, 15, 16, 17, 18, 19, 20, 21, 22] from 75 to 177 (fun l _ mm _ _ _ _ _ _ _ _ _ wx => ∃ (h a h2 b : Nat) (d r : D) (last : Int), l = .pointer (some ⟨a, 0, none⟩) ∧ mm = .pointer (some ⟨b, 0, none⟩) ∧ Lt w wx m M g h a g2 h2 b d r last d.ops last ∧ Ok d ∧ Sim d r ∧ By d.bytes ∧ (0 ≤ last ∧ last ≤ 4294967295) ∧ d.ops ≤ 2 * (j : Int) + 2)
          case first =>
            rcases (by omega : k = 0 ∨ k = 1 ∨ k = 2 ∨ k = 3 ∨ k = 4 ∨ k = 5) with rfl | rfl | rfl | rfl | rfl | rfl
            · obtain ⟨y1, y2⟩ := sim_n hs last
              obtain ⟨E, hE⟩ : ∃ E, nE d last = E := ⟨_, rfl⟩
              obtain ⟨d1, hd1⟩ : ∃ d1, nD d last = d1 := ⟨_, rfl⟩
              obtain ⟨V, hV⟩ : ∃ V : Int, (if E = 0 then last + 1 else 0) = V := ⟨_, rfl⟩
              obtain ⟨L1, hL1⟩ : ∃ L1 : Int, (if E = 0 then last + 1 else last) = L1 := ⟨_, rfl⟩
              obtain ⟨r1, hr1⟩ : ∃ r1, (if last = 4294967295 then r else rwD r (rowL r.bytes (last + 1))) = r1 := ⟨_, rfl⟩
              rw [hE] at y1
              rw [hd1, hr1] at y2
              have k1 := lt_next t hk (by omega) rfl hl0 E V L1 d1.ops d1 hE hd1 hV.symm hL1.symm rfl
              have k2 := fun w1 h1 (t1 : Lt w w1 m M g h1 a g2 h2 b d1 r L1 d1.ops last) => lt_rnext t1 hk hs (by omega) hl0 E V L1 r1 y1 hr1 hV.symm hL1.symm
              have k3 : Ok d1 := hd1 ▸ ok_n hk (by omega) last
              have k4 : By d1.bytes := hd1 ▸ by_n hby last
              have k5 : d1.ops ≤ 2 * (j : Int) + 2 := by have := (n_ops d last).2; rw [hd1] at this; omega
              have k6 : 0 ≤ L1 ∧ L1 ≤ 4294967295 := by
                by_cases h0 : E = 0
                · have hm : last ≠ 4294967295 := fun hm => by rw [h0, nE, if_pos hm] at hE; cases hE
                  rw [← hL1, if_pos h0]; omega
                · rw [← hL1, if_neg h0]; exact hl0
              clear y1 hE hd1 hV hL1 hr1 m0 m1 m2 hwi hM1 hrb
              go_wp2_with (first | (go_at_call 13; (with_reducible refine Calls.mono (k1) ?_); rintro e w6 ⟨rfl, h6, t6⟩) | (go_at_call 14; (with_reducible refine Calls.mono (k2 _ _ t6) ?_); rintro e w7 ⟨rfl, h7, t7⟩))
              go_meet
              case rel => exact ⟨h6, a, h7, b, d1, r1, L1, rfl, rfl, t7, k3, y2, k4, k6, k5⟩
            · obtain ⟨y1, y2⟩ := sim_n hs last
              obtain ⟨E, hE⟩ : ∃ E, nE d last = E := ⟨_, rfl⟩
              obtain ⟨d1, hd1⟩ : ∃ d1, nD d last = d1 := ⟨_, rfl⟩
              obtain ⟨V, hV⟩ : ∃ V : Int, (if E = 0 then last + 1 else 0) = V := ⟨_, rfl⟩
              obtain ⟨L1, hL1⟩ : ∃ L1 : Int, (if E = 0 then last + 1 else last) = L1 := ⟨_, rfl⟩
              obtain ⟨r1, hr1⟩ : ∃ r1, (if last = 4294967295 then r else rwD r (rowL r.bytes (last + 1))) = r1 := ⟨_, rfl⟩
              rw [hE] at y1
              rw [hd1, hr1] at y2
              have k1 := lt_next t hk (by omega) rfl hl0 E V L1 d1.ops d1 hE hd1 hV.symm hL1.symm rfl
              have k2 := fun w1 h1 (t1 : Lt w w1 m M g h1 a g2 h2 b d1 r L1 d1.ops last) => lt_rnext t1 hk hs (by omega) hl0 E V L1 r1 y1 hr1 hV.symm hL1.symm
              have k3 : Ok d1 := hd1 ▸ ok_n hk (by omega) last
              have k4 : By d1.bytes := hd1 ▸ by_n hby last
              have k5 : d1.ops ≤ 2 * (j : Int) + 2 := by have := (n_ops d last).2; rw [hd1] at this; omega
              have k6 : 0 ≤ L1 ∧ L1 ≤ 4294967295 := by
                by_cases h0 : E = 0
                · have hm : last ≠ 4294967295 := fun hm => by rw [h0, nE, if_pos hm] at hE; cases hE
                  rw [← hL1, if_pos h0]; omega
                · rw [← hL1, if_neg h0]; exact hl0
              clear y1 hE hd1 hV hL1 hr1 m0 m1 m2 hwi hM1 hrb
              go_wp2_with (first | (go_at_call 13; (with_reducible refine Calls.mono (k1) ?_); rintro e w6 ⟨rfl, h6, t6⟩) | (go_at_call 14; (with_reducible refine Calls.mono (k2 _ _ t6) ?_); rintro e w7 ⟨rfl, h7, t7⟩))
              go_meet
              case rel => exact ⟨h6, a, h7, b, d1, r1, L1, rfl, rfl, t7, k3, y2, k4, k6, k5⟩
            · have k1 := lt_stop t x.n _ rfl
              have k2 := fun w1 (t1 : Lt w w1 m M g h a g2 h2 b { d with left := lmax x.n } r last d.ops last) => lt_rstop t1 x.n _ rfl
              have k3 := ok_stop hk x.n hn2
              have y2 := sim_stop hs x.n hn2
              have k4 : By ({ d with left := lmax x.n } : D).bytes := hby
              have k5 : d.ops = ({ d with left := lmax x.n } : D).ops := rfl
              generalize ({ d with left := lmax x.n } : D) = d1 at *
              generalize ({ r with left := lmax x.n } : D) = r1 at *
              go_wp2_with (first | (go_at_call 15; (with_reducible refine Calls.mono (k1) ?_); rintro e w6 ⟨rfl, t6⟩; have m16 := (hM1 _ _ _ _ _ _ _ _ _ _ t6).1) | (go_at_call 16; (with_reducible refine Calls.mono (k2 _ t6) ?_); rintro e w7 ⟨rfl, t7⟩))
              go_meet
              case rel => exact ⟨h, a, h2, b, d1, r1, last, rfl, rfl, by rw [← k5]; exact t7, k3, y2, k4, hl0, by omega⟩
            · obtain ⟨y1, y2⟩ := sim_crash hs x.n
              have y1' : (stay r x.n : Int) = (stay d x.n : Int) := by rw [y1]
              have k1 := lt_crash t hk x.n _ _ rfl rfl
              have k2 := fun w1 (t1 : Lt w w1 m M g h a g2 h2 b (dCrash d x.n) r last d.ops last) => lt_rcrash t1 hrb x.n _ _ y1' rfl
              have k3 := ok_crash hk x.n
              have k4 := by_crash hby x.n
              have k5 : (dCrash d x.n).ops = d.ops := rfl
              have k6 : (dCrash d x.n).dead = false := rfl
              clear y1 y1'
              generalize dCrash d x.n = d1 at *
              generalize dCrash r x.n = r1 at *
              generalize stay d x.n = E at *
              obtain ⟨G, hG⟩ : ∃ G, grL d1.bytes = G := ⟨_, rfl⟩
              have hrl := rb_of k3 y2
              have k7 := fun w1 (t1 : Lt w w1 m M g h a g2 h2 b d1 r1 last d.ops last) => lt_open t1 k3 k4 k6 G d1.ops hG rfl
              have k8 := fun w1 a1 (t1 : Lt w w1 m M g h a1 g2 h2 b d1 r1 G d1.ops last) => lt_ropen t1 (by have := hrl.len; omega) (y2.bytes ▸ k4) (y2.dead.trans k6) G (by rw [y2.bytes]; exact hG)
              have k9 := grL_range k4
              rw [hG] at k9
              clear hG hrl hrb
              go_wp2_with (first | (go_at_call 17; (with_reducible refine Calls.mono (k1) ?_); rintro e w6 ⟨rfl, t6⟩; have m16 := (hM1 _ _ _ _ _ _ _ _ _ _ t6).1) | (go_at_call 18; (with_reducible refine Calls.mono (k2 _ t6) ?_); rintro e w7 ⟨rfl, t7⟩) | (go_at_call 11; (with_reducible refine Calls.mono (k7 _ t7) ?_); rintro e w8 ⟨a8, rfl, t8, _⟩) | (go_at_call 12; (with_reducible refine Calls.mono (k8 _ _ t8) ?_); rintro e w9 ⟨b9, rfl, t9⟩))
              go_meet
              case rel => exact ⟨h, a8, h2, b9, d1, r1, G, rfl, rfl, t9, k3, y2, k4, by omega, by omega⟩
            · cases hdd : d.dead with
              | true =>
                have o1 := fun w1 (t1 : Lt w w1 m M g h a g2 h2 b d r last d.ops last) => open_dead d g h w1 t1.lv.two.dk hdd
                have o2 := fun w1 (t1 : Lt w w1 m M g h a g2 h2 b d r last d.ops last) => ropen_dead r g2 h2 w1 t1.lv.two.rk (hs.dead.trans hdd)
                clear hM1 hrb
                go_wp2_with (first | (go_at_call 8; (with_reducible refine Calls.mono (hwi _) ?_); rintro e wz ⟨rfl, hw⟩; obtain rfl := hw.symm; clear hw) | (go_at_call 11; (with_reducible refine Calls.mono (o1 _ t) ?_); rintro e wz ⟨rfl, hw⟩; obtain rfl := hw.symm; clear hw) | (go_at_call 12; (with_reducible refine Calls.mono (o2 _ t) ?_); rintro e wz ⟨rfl, hw⟩; obtain rfl := hw.symm; clear hw))
                go_meet
                case rel => exact ⟨h, a, h2, b, d, r, last, rfl, rfl, t, hk, hs, hby, hl0, by omega⟩
              | false =>
                obtain ⟨G, hG⟩ : ∃ G, grL d.bytes = G := ⟨_, rfl⟩
                have hrl := rb_of hk hs
                have k7 := fun w1 (t1 : Lt w w1 m M g h a g2 h2 b d r last d.ops last) => lt_open t1 hk hby hdd G d.ops hG rfl
                have k8 := fun w1 a1 (t1 : Lt w w1 m M g h a1 g2 h2 b d r G d.ops last) => lt_ropen t1 (by have := hrl.len; omega) (hs.bytes ▸ hby) (hs.dead.trans hdd) G (by rw [hs.bytes]; exact hG)
                have k9 := grL_range hby
                rw [hG] at k9
                clear hG hrl
                clear hM1 hrb
                go_wp2_with (first | (go_at_call 8; (with_reducible refine Calls.mono (hwi _) ?_); rintro e wz ⟨rfl, hw⟩; obtain rfl := hw.symm; clear hw) | (go_at_call 11; (with_reducible refine Calls.mono (k7 _ t) ?_); rintro e w8 ⟨a8, rfl, t8, _⟩) | (go_at_call 12; (with_reducible refine Calls.mono (k8 _ _ t8) ?_); rintro e w9 ⟨b9, rfl, t9⟩))
                go_meet
                case rel => exact ⟨h, a8, h2, b9, d, r, G, rfl, rfl, t9, hk, hs, hby, by omega, by omega⟩
            · have k55 : w5.cell? ⟨g2, 5, none⟩ = some (.bool d.dead) := by
                obtain ⟨sp2, cap2, rr, ro, re⟩ := t.lv.two.rk
                rw [← hs.dead]; exact rr.cell
              cases hdd : d.dead with
              | true =>
                rw [hdd] at k55
                have o1 := fun w1 (t1 : Lt w w1 m M g h a g2 h2 b d r last d.ops last) => open_dead d g h w1 t1.lv.two.dk hdd
                have o2 := fun w1 (t1 : Lt w w1 m M g h a g2 h2 b d r last d.ops last) => ropen_dead r g2 h2 w1 t1.lv.two.rk (hs.dead.trans hdd)
                clear hM1 hrb
                go_wp2_with (first | (go_at_call 8; (with_reducible refine Calls.mono (hwi _) ?_); rintro e wz ⟨rfl, hw⟩; obtain rfl := hw.symm; clear hw) | (go_at_call 11; (with_reducible refine Calls.mono (o1 _ t) ?_); rintro e wz ⟨rfl, hw⟩; obtain rfl := hw.symm; clear hw) | (go_at_call 12; (with_reducible refine Calls.mono (o2 _ t) ?_); rintro e wz ⟨rfl, hw⟩; obtain rfl := hw.symm; clear hw))
                go_meet
                case rel => exact ⟨h, a, h2, b, d, r, last, rfl, rfl, t, hk, hs, hby, hl0, by omega⟩
              | false =>
                rw [hdd] at k55
                obtain ⟨y1, y2⟩ := sim_app hs x.b
                have k1 := lt_append t hk x.b q x.b.length c rfl (hbx.belowB t.lv.two.below (Nat.le_refl _)) hnil (by omega) _ _ rfl rfl
                have k2 := fun w1 h1 (t1 : Lt w w1 m M g h1 a g2 h2 b (dApp d x.b) r last d.ops last) => lt_rappend t1 hrb x.b q x.b.length c rfl (hbx.belowB t1.lv.two.below (Nat.le_refl _)) (fun hp a ha e => by have h3 := hqb a ha hp; have h4 := t1.lv.two.hg2; omega) hnil (by omega) _ _ y1 rfl
                have k3 := ok_app hk (by omega) x.b
                have k4 := by_dapp hby hbyx
                have k5 := (app_ops d x.b).2
                have k6 := app_dead hdd x.b
                clear y1
                generalize dApp d x.b = d1 at *
                generalize rApp r x.b = r1 at *
                generalize aErr d x.b = E at *
                cases hd1 : d1.dead with
                | true =>
                  have o1 := fun w1 h6 h7 (t1 : Lt w w1 m M g h6 a g2 h7 b d1 r1 last d.ops last) => open_dead d1 g h6 w1 t1.lv.two.dk hd1
                  have o2 := fun w1 h6 h7 (t1 : Lt w w1 m M g h6 a g2 h7 b d1 r1 last d.ops last) => ropen_dead r1 g2 h7 w1 t1.lv.two.rk (y2.dead.trans hd1)
                  replace k6 := k6 hd1
                  go_wp2_with (first | (go_at_call 8; (with_reducible refine Calls.mono (hwi _) ?_); rintro e wz ⟨rfl, hw⟩; obtain rfl := hw.symm; clear hw) | (go_at_call 19; (with_reducible refine Calls.mono (k1) ?_); rintro e w6 ⟨rfl, h6, t6⟩; have m26 := (hM1 _ _ _ _ _ _ _ _ _ _ t6).2) | (go_at_call 20; (with_reducible refine Calls.mono (k2 _ _ t6) ?_); rintro e w7 ⟨rfl, h7, t7⟩) | (go_at_call 11; (with_reducible refine Calls.mono (o1 _ _ _ t7) ?_); rintro e wz ⟨rfl, hw⟩; obtain rfl := hw.symm; clear hw) | (go_at_call 12; (with_reducible refine Calls.mono (o2 _ _ _ t7) ?_); rintro e wz ⟨rfl, hw⟩; obtain rfl := hw.symm; clear hw))
                  go_meet
                  case rel => exact ⟨h6, a, h7, b, d1, r1, last, rfl, rfl, by rw [k6]; exact t7, k3, y2, k4, hl0, by omega⟩
                | false =>
                  obtain ⟨G, hG⟩ : ∃ G, grL d1.bytes = G := ⟨_, rfl⟩
                  have hrl := rb_of k3 y2
                  have k7 := fun w1 h6 h7 (t1 : Lt w w1 m M g h6 a g2 h7 b d1 r1 last d.ops last) => lt_open t1 k3 k4 hd1 G d1.ops hG rfl
                  have k8 := fun w1 h6 h7 a1 (t1 : Lt w w1 m M g h6 a1 g2 h7 b d1 r1 G d1.ops last) => lt_ropen t1 (by have := hrl.len; omega) (y2.bytes ▸ k4) (y2.dead.trans hd1) G (by rw [y2.bytes]; exact hG)
                  have k9 := grL_range k4
                  rw [hG] at k9
                  clear hG hrl k6
                  go_wp2_with (first | (go_at_call 8; (with_reducible refine Calls.mono (hwi _) ?_); rintro e wz ⟨rfl, hw⟩; obtain rfl := hw.symm; clear hw) | (go_at_call 19; (with_reducible refine Calls.mono (k1) ?_); rintro e w6 ⟨rfl, h6, t6⟩; have m26 := (hM1 _ _ _ _ _ _ _ _ _ _ t6).2) | (go_at_call 20; (with_reducible refine Calls.mono (k2 _ _ t6) ?_); rintro e w7 ⟨rfl, h7, t7⟩) | (go_at_call 11; (with_reducible refine Calls.mono (k7 _ _ _ t7) ?_); rintro e w8 ⟨a8, rfl, t8, _⟩) | (go_at_call 12; (with_reducible refine Calls.mono (k8 _ _ _ _ t8) ?_); rintro e w9 ⟨b9, rfl, t9⟩))
                  go_meet
                  case rel => exact ⟨h6, a8, h7, b9, d1, r1, G, rfl, rfl, t9, k3, y2, k4, by omega, by omega⟩
          case rest =>
            obtain ⟨h', a', h2', b', d', r', last', rfl, rfl, t', hk', hs', hby', hl0', hops'⟩ := hcut
            clear m0 m1 m2 hwi hrb t hM1 hbx hnil hqb hbyx
            obtain ⟨sp2, cap2, rr, ro, re⟩ := t'.lv.two.rk
            have hsz : d'.bytes.length ≤ 16777216 := by
              have h1 := hk'.fits
              have h2 := hk'.room
              omega
            have q1 : ∀ w1, Bytes w1 sp2 r'.bytes → (convert 38 9 (.slice sp2 r'.bytes.length cap2)).run Try.prog w1 = .ok (.string (strOfNums d'.bytes)) w1 := fun w1 h => by
              rw [← hs'.bytes]; exact run_str w1 sp2 _ cap2 r'.bytes rfl h
            have q2 : ∀ w1 (sp : Option Addr) (cp : Nat), Bytes w1 sp d'.bytes → (convert 38 9 (.slice sp d'.bytes.length cp)).run Try.prog w1 = .ok (.string (strOfNums d'.bytes)) w1 := fun w1 sp cp h => run_str w1 sp _ cp d'.bytes rfl h
            have eR : ((strOfNums d'.bytes).toList != (strOfNums d'.bytes).toList) = false := by simp
            have k2 : wc.cell? ⟨g2, 2, none⟩ = some (.slice sp2 r'.bytes.length cap2) := rr.cell
            have k1 : wc.cell? ⟨b', 1, none⟩ = some (.int .i64 last') := t'.lv.rowB.cell
            have hrB := ro.bytes
            obtain ⟨B, hB⟩ : ∃ B, B = wc.heap.size := ⟨_, rfl⟩
            have hsB : ∀ {w : World}, Below B wc w → B ≤ w.heap.size := fun h => by have := h.size; omega
            have hBy : ∀ wx, Below B wc wx → Calls Try.prog 22 #[.pointer (some ⟨g, 0, none⟩)] wx fun e wy => ∃ sp cp, e = .returned (.slice sp d'.bytes.length cp) ∧ Own8 wy wx.heap.size 5 (.slice sp d'.bytes.length cp) d'.bytes ∧ Below wx.heap.size wx wy := fun wx hb =>
              (bytes_any d' g h' wx (t'.later (by rw [← hB]; exact hb)).lv.two.dk hk').mono fun e wy ⟨he, hr, hb2⟩ => ⟨_, _, he, own8_row hr (by unfold maxLen; omega), hb2⟩
            have hLa : ∀ wx, Below B wc wx → Calls Try.prog 21 #[.pointer (some ⟨a', 0, none⟩)] wx fun e wy => e = .returned (.int .i64 last') ∧ Below wx.heap.size wx wy := fun wx hb =>
              last_any d' last' d'.ops a' g h' wx (t'.later (by rw [← hB]; exact hb)).lv.rowA (t'.later (by rw [← hB]; exact hb)).lv.two.dk rfl
            have kk : ∀ wx, Below B wc wx → wx.cell? ⟨b', 1, none⟩ = some (.int .i64 last') ∧ wx.cell? ⟨g2, 2, none⟩ = some (.slice sp2 r'.bytes.length cap2) ∧ Bytes wx sp2 r'.bytes := fun wx hb =>
              ⟨keep_at (by rw [← hB]; exact hb) k1, keep_at (by rw [← hB]; exact hb) k2, hrB.belowB hb (by rw [hB]; exact Nat.le_refl _)⟩
            clear k1 k2 rr ro re
            go_upto_region 43 with fail
            refine region_invFA  (by kernel_rfl) (by kernel_rfl) (fun a0 listed a w => ∃ s178 s179 s180 s181 s182 s183 s184 s185 s186 s187 s188 s189 s190 s191 s192 s193 s194 s195, a = (Act.put (Act.put (Act.put (Act.put (Act.put (Act.put (Act.put (Act.put (Act.put (Act.put (Act.put (Act.put (Act.put (Act.put (Act.put (Act.put (Act.put (Act.put a0 (some 178) s178) (some 179) s179) (some 180) s180) (some 181) s181) (some 182) s182) (some 183) s183) (some 184) s184) (some 185) s185) (some 186) s186) (some 187) s187) (some 188) s188) (some 189) s189) (some 190) s190) (some 191) s191) (some 192) s192) (some 193) s193) (some 194) s194) (some 195) s195) ∧ Below B wc w ∧ (listed.getD 0 false = true → s178 = .pointer (some ⟨a', 0, none⟩)) ∧ (listed.getD 1 false = true → s179 = (.int .i64 last')) ∧ (listed.getD 2 false = true → s180 = .pointer (some ⟨b', 0, none⟩)) ∧ (listed.getD 3 false = true → s181 = .pointer (some ⟨b', 0, none⟩)) ∧ (listed.getD 4 false = true → s182 = .pointer (some ⟨b', 1, none⟩)) ∧ (listed.getD 5 false = true → s183 = .int .i64 last') ∧ (listed.getD 6 false = true → s184 = .bool false) ∧ (listed.getD 7 false = true → s185 = .bool false) ∧ (listed.getD 8 false = true → s186 = .pointer (some ⟨g, 0, none⟩)) ∧ (listed.getD 9 false = true → listed.getD 10 false = false → OwnS w B s187 d'.bytes.length d'.bytes) ∧ (listed.getD 10 false = true → s188 = .string (strOfNums d'.bytes)) ∧ (listed.getD 11 false = true → s189 = .pointer (some ⟨g2, 0, none⟩)) ∧ (listed.getD 12 false = true → s190 = .pointer (some ⟨g2, 0, none⟩)) ∧ (listed.getD 13 false = true → s191 = .pointer (some ⟨g2, 2, none⟩)) ∧ (listed.getD 14 false = true → s192 = .slice sp2 r'.bytes.length cap2) ∧ (listed.getD 15 false = true → s193 = .string (strOfNums d'.bytes)) ∧ (listed.getD 16 false = true → s194 = .bool false) ∧ (listed.getD 17 false = true → s195 = .bool false)) ?_ ?_ ?_
            all_goals simp only [Act.put, List.setIfInBounds_toArray, List.set_cons_succ, List.set_cons_zero]
            · exact ⟨_, _, _, _, _, _, _, _, _, _, _, _, _, _, _, _, _, _, rfl, (Below.refl B _).drew, (fun h => absurd h (by rw [getD_replicate_false]; decide)), (fun h => absurd h (by rw [getD_replicate_false]; decide)), (fun h => absurd h (by rw [getD_replicate_false]; decide)), (fun h => absurd h (by rw [getD_replicate_false]; decide)), (fun h => absurd h (by rw [getD_replicate_false]; decide)), (fun h => absurd h (by rw [getD_replicate_false]; decide)), (fun h => absurd h (by rw [getD_replicate_false]; decide)), (fun h => absurd h (by rw [getD_replicate_false]; decide)), (fun h => absurd h (by rw [getD_replicate_false]; decide)), (fun h => absurd h (by rw [getD_replicate_false]; decide)), (fun h => absurd h (by rw [getD_replicate_false]; decide)), (fun h => absurd h (by rw [getD_replicate_false]; decide)), (fun h => absurd h (by rw [getD_replicate_false]; decide)), (fun h => absurd h (by rw [getD_replicate_false]; decide)), (fun h => absurd h (by rw [getD_replicate_false]; decide)), (fun h => absurd h (by rw [getD_replicate_false]; decide)), (fun h => absurd h (by rw [getD_replicate_false]; decide)), (fun h => absurd h (by rw [getD_replicate_false]; decide))⟩
            · intro listed a w i o hls hJ hin ho hi hall hcl
              obtain ⟨s178, s179, s180, s181, s182, s183, s184, s185, s186, s187, s188, s189, s190, s191, s192, s193, s194, s195, rfl, hbW, c0, c1, c2, c3, c4, c5, c6, c7, c8, c9, c10, c11, c12, c13, c14, c15, c16, c17⟩ := hJ
              replace hin : i < 18 := hin
              rcases (by omega : i = 0 ∨ i = 1 ∨ i = 2 ∨ i = 3 ∨ i = 4 ∨ i = 5 ∨ i = 6 ∨ i = 7 ∨ i = 8 ∨ i = 9 ∨ i = 10 ∨ i = 11 ∨ i = 12 ∨ i = 13 ∨ i = 14 ∨ i = 15 ∨ i = 16 ∨ i = 17) with rfl | rfl | rfl | rfl | rfl | rfl | rfl | rfl | rfl | rfl | rfl | rfl | rfl | rfl | rfl | rfl | rfl | rfl
              · obtain rfl := Option.some.inj ho
                have hsz : 0 < listed.size := by rw [hls]; decide
                have hbw := hbW
                refine inv_val (w' := w) (.pointer (some ⟨a', 0, none⟩)) rfl rfl rfl ?_
                exact ⟨(.pointer (some ⟨a', 0, none⟩)), s179, s180, s181, s182, s183, s184, s185, s186, s187, s188, s189, s190, s191, s192, s193, s194, s195, rfl, hbw, (fun _ => rfl), (fun h => c1 (bit_ne h (by decide))), (fun h => c2 (bit_ne h (by decide))), (fun h => c3 (bit_ne h (by decide))), (fun h => c4 (bit_ne h (by decide))), (fun h => c5 (bit_ne h (by decide))), (fun h => c6 (bit_ne h (by decide))), (fun h => c7 (bit_ne h (by decide))), (fun h => c8 (bit_ne h (by decide))), (fun h h2 => c9 (bit_ne h (by decide)) (bit_ne h2 (by decide))), (fun h => c10 (bit_ne h (by decide))), (fun h => c11 (bit_ne h (by decide))), (fun h => c12 (bit_ne h (by decide))), (fun h => c13 (bit_ne h (by decide))), (fun h => c14 (bit_ne h (by decide))), (fun h => c15 (bit_ne h (by decide))), (fun h => c16 (bit_ne h (by decide))), (fun h => c17 (bit_ne h (by decide)))⟩
              · obtain rfl := Option.some.inj ho
                have hsz : 1 < listed.size := by rw [hls]; decide
                have hdep0 : listed.getD 0 false = true := hall ⟨0, .data⟩ (by simp) (by rfl)
                obtain rfl := c0 hdep0
                refine inv_call 21 #[.pointer (some ⟨a', 0, none⟩)] _ rfl rfl (by kernel_rfl) (hLa w hbW) ?_
                rintro e w' ⟨rfl, hb⟩
                have hbw : Below B wc w' := hbW.trans (hb.mono (hsB hbW))
                refine ⟨_, rfl, ?_⟩
                exact ⟨(.pointer (some ⟨a', 0, none⟩)), ((.int .i64 last')), s180, s181, s182, s183, s184, s185, s186, s187, s188, s189, s190, s191, s192, s193, s194, s195, rfl, hbw, (fun h => c0 (bit_ne h (by decide))), (fun _ => rfl), (fun h => c2 (bit_ne h (by decide))), (fun h => c3 (bit_ne h (by decide))), (fun h => c4 (bit_ne h (by decide))), (fun h => c5 (bit_ne h (by decide))), (fun h => c6 (bit_ne h (by decide))), (fun h => c7 (bit_ne h (by decide))), (fun h => c8 (bit_ne h (by decide))), (fun h h2 => (c9 (bit_ne h (by decide)) (bit_ne h2 (by decide))).below hb), (fun h => c10 (bit_ne h (by decide))), (fun h => c11 (bit_ne h (by decide))), (fun h => c12 (bit_ne h (by decide))), (fun h => c13 (bit_ne h (by decide))), (fun h => c14 (bit_ne h (by decide))), (fun h => c15 (bit_ne h (by decide))), (fun h => c16 (bit_ne h (by decide))), (fun h => c17 (bit_ne h (by decide)))⟩
              · obtain rfl := Option.some.inj ho
                have hsz : 2 < listed.size := by rw [hls]; decide
                have hbw := hbW
                refine inv_val (w' := w) (.pointer (some ⟨b', 0, none⟩)) rfl rfl rfl ?_
                exact ⟨s178, s179, (.pointer (some ⟨b', 0, none⟩)), s181, s182, s183, s184, s185, s186, s187, s188, s189, s190, s191, s192, s193, s194, s195, rfl, hbw, (fun h => c0 (bit_ne h (by decide))), (fun h => c1 (bit_ne h (by decide))), (fun _ => rfl), (fun h => c3 (bit_ne h (by decide))), (fun h => c4 (bit_ne h (by decide))), (fun h => c5 (bit_ne h (by decide))), (fun h => c6 (bit_ne h (by decide))), (fun h => c7 (bit_ne h (by decide))), (fun h => c8 (bit_ne h (by decide))), (fun h h2 => c9 (bit_ne h (by decide)) (bit_ne h2 (by decide))), (fun h => c10 (bit_ne h (by decide))), (fun h => c11 (bit_ne h (by decide))), (fun h => c12 (bit_ne h (by decide))), (fun h => c13 (bit_ne h (by decide))), (fun h => c14 (bit_ne h (by decide))), (fun h => c15 (bit_ne h (by decide))), (fun h => c16 (bit_ne h (by decide))), (fun h => c17 (bit_ne h (by decide)))⟩
              · obtain rfl := Option.some.inj ho
                have hsz : 3 < listed.size := by rw [hls]; decide
                have hdep2 : listed.getD 2 false = true := hall ⟨2, .data⟩ (by simp) (by rfl)
                obtain rfl := c2 hdep2
                have hbw := hbW
                refine inv_val (w' := w) (.pointer (some ⟨b', 0, none⟩)) rfl rfl (by kernel_rfl) ?_
                exact ⟨s178, s179, (.pointer (some ⟨b', 0, none⟩)), (.pointer (some ⟨b', 0, none⟩)), s182, s183, s184, s185, s186, s187, s188, s189, s190, s191, s192, s193, s194, s195, rfl, hbw, (fun h => c0 (bit_ne h (by decide))), (fun h => c1 (bit_ne h (by decide))), (fun h => c2 (bit_ne h (by decide))), (fun _ => rfl), (fun h => c4 (bit_ne h (by decide))), (fun h => c5 (bit_ne h (by decide))), (fun h => c6 (bit_ne h (by decide))), (fun h => c7 (bit_ne h (by decide))), (fun h => c8 (bit_ne h (by decide))), (fun h h2 => c9 (bit_ne h (by decide)) (bit_ne h2 (by decide))), (fun h => c10 (bit_ne h (by decide))), (fun h => c11 (bit_ne h (by decide))), (fun h => c12 (bit_ne h (by decide))), (fun h => c13 (bit_ne h (by decide))), (fun h => c14 (bit_ne h (by decide))), (fun h => c15 (bit_ne h (by decide))), (fun h => c16 (bit_ne h (by decide))), (fun h => c17 (bit_ne h (by decide)))⟩
              · obtain rfl := Option.some.inj ho
                have hsz : 4 < listed.size := by rw [hls]; decide
                have hdep3 : listed.getD 3 false = true := hall ⟨3, .data⟩ (by simp) (by rfl)
                obtain rfl := c3 hdep3
                have hbw := hbW
                refine inv_val (w' := w) (.pointer (some ⟨b', 1, none⟩)) rfl rfl (by kernel_rfl) ?_
                exact ⟨s178, s179, s180, (.pointer (some ⟨b', 0, none⟩)), (.pointer (some ⟨b', 1, none⟩)), s183, s184, s185, s186, s187, s188, s189, s190, s191, s192, s193, s194, s195, rfl, hbw, (fun h => c0 (bit_ne h (by decide))), (fun h => c1 (bit_ne h (by decide))), (fun h => c2 (bit_ne h (by decide))), (fun h => c3 (bit_ne h (by decide))), (fun _ => rfl), (fun h => c5 (bit_ne h (by decide))), (fun h => c6 (bit_ne h (by decide))), (fun h => c7 (bit_ne h (by decide))), (fun h => c8 (bit_ne h (by decide))), (fun h h2 => c9 (bit_ne h (by decide)) (bit_ne h2 (by decide))), (fun h => c10 (bit_ne h (by decide))), (fun h => c11 (bit_ne h (by decide))), (fun h => c12 (bit_ne h (by decide))), (fun h => c13 (bit_ne h (by decide))), (fun h => c14 (bit_ne h (by decide))), (fun h => c15 (bit_ne h (by decide))), (fun h => c16 (bit_ne h (by decide))), (fun h => c17 (bit_ne h (by decide)))⟩
              · obtain rfl := Option.some.inj ho
                have hsz : 5 < listed.size := by rw [hls]; decide
                have hdep4 : listed.getD 4 false = true := hall ⟨4, .data⟩ (by simp) (by rfl)
                obtain rfl := c4 hdep4
                have hbw := hbW
                refine inv_val (w' := w) (.int .i64 last') rfl rfl (by have hq := (kk w hbW).1; go_simp) ?_
                exact ⟨s178, s179, s180, s181, (.pointer (some ⟨b', 1, none⟩)), (.int .i64 last'), s184, s185, s186, s187, s188, s189, s190, s191, s192, s193, s194, s195, rfl, hbw, (fun h => c0 (bit_ne h (by decide))), (fun h => c1 (bit_ne h (by decide))), (fun h => c2 (bit_ne h (by decide))), (fun h => c3 (bit_ne h (by decide))), (fun h => c4 (bit_ne h (by decide))), (fun _ => rfl), (fun h => c6 (bit_ne h (by decide))), (fun h => c7 (bit_ne h (by decide))), (fun h => c8 (bit_ne h (by decide))), (fun h h2 => c9 (bit_ne h (by decide)) (bit_ne h2 (by decide))), (fun h => c10 (bit_ne h (by decide))), (fun h => c11 (bit_ne h (by decide))), (fun h => c12 (bit_ne h (by decide))), (fun h => c13 (bit_ne h (by decide))), (fun h => c14 (bit_ne h (by decide))), (fun h => c15 (bit_ne h (by decide))), (fun h => c16 (bit_ne h (by decide))), (fun h => c17 (bit_ne h (by decide)))⟩
              · obtain rfl := Option.some.inj ho
                have hsz : 6 < listed.size := by rw [hls]; decide
                have hdep1 : listed.getD 1 false = true := hall ⟨1, .data⟩ (by simp) (by rfl)
                obtain rfl := c1 hdep1
                have hdep5 : listed.getD 5 false = true := hall ⟨5, .data⟩ (by simp) (by rfl)
                obtain rfl := c5 hdep5
                have hbw := hbW
                refine inv_val (w' := w) (.bool false) rfl rfl (by go_simp) ?_
                exact ⟨s178, ((.int .i64 last')), s180, s181, s182, (.int .i64 last'), (.bool false), s185, s186, s187, s188, s189, s190, s191, s192, s193, s194, s195, rfl, hbw, (fun h => c0 (bit_ne h (by decide))), (fun h => c1 (bit_ne h (by decide))), (fun h => c2 (bit_ne h (by decide))), (fun h => c3 (bit_ne h (by decide))), (fun h => c4 (bit_ne h (by decide))), (fun h => c5 (bit_ne h (by decide))), (fun _ => rfl), (fun h => c7 (bit_ne h (by decide))), (fun h => c8 (bit_ne h (by decide))), (fun h h2 => c9 (bit_ne h (by decide)) (bit_ne h2 (by decide))), (fun h => c10 (bit_ne h (by decide))), (fun h => c11 (bit_ne h (by decide))), (fun h => c12 (bit_ne h (by decide))), (fun h => c13 (bit_ne h (by decide))), (fun h => c14 (bit_ne h (by decide))), (fun h => c15 (bit_ne h (by decide))), (fun h => c16 (bit_ne h (by decide))), (fun h => c17 (bit_ne h (by decide)))⟩
              · obtain rfl := Option.some.inj ho
                have hsz : 7 < listed.size := by rw [hls]; decide
                have hdep6 : listed.getD 6 false = true := hall ⟨6, .data⟩ (by simp) (by rfl)
                obtain rfl := c6 hdep6
                have hbw := hbW
                refine inv_val (w' := w) (.bool false) rfl rfl rfl ?_
                exact ⟨s178, s179, s180, s181, s182, s183, (.bool false), (.bool false), s186, s187, s188, s189, s190, s191, s192, s193, s194, s195, rfl, hbw, (fun h => c0 (bit_ne h (by decide))), (fun h => c1 (bit_ne h (by decide))), (fun h => c2 (bit_ne h (by decide))), (fun h => c3 (bit_ne h (by decide))), (fun h => c4 (bit_ne h (by decide))), (fun h => c5 (bit_ne h (by decide))), (fun h => c6 (bit_ne h (by decide))), (fun _ => rfl), (fun h => c8 (bit_ne h (by decide))), (fun h h2 => c9 (bit_ne h (by decide)) (bit_ne h2 (by decide))), (fun h => c10 (bit_ne h (by decide))), (fun h => c11 (bit_ne h (by decide))), (fun h => c12 (bit_ne h (by decide))), (fun h => c13 (bit_ne h (by decide))), (fun h => c14 (bit_ne h (by decide))), (fun h => c15 (bit_ne h (by decide))), (fun h => c16 (bit_ne h (by decide))), (fun h => c17 (bit_ne h (by decide)))⟩
              · obtain rfl := Option.some.inj ho
                have hsz : 8 < listed.size := by rw [hls]; decide
                have hdep7 : listed.getD 7 false = true := hall ⟨7, .guard⟩ (by simp) (by rfl)
                obtain rfl := c7 hdep7
                have hbw := hbW
                refine inv_valG (w' := w) (.pointer (some ⟨g, 0, none⟩)) rfl (by kernel_rfl) rfl ?_
                exact ⟨s178, s179, s180, s181, s182, s183, s184, (.bool false), (.pointer (some ⟨g, 0, none⟩)), s187, s188, s189, s190, s191, s192, s193, s194, s195, rfl, hbw, (fun h => c0 (bit_ne h (by decide))), (fun h => c1 (bit_ne h (by decide))), (fun h => c2 (bit_ne h (by decide))), (fun h => c3 (bit_ne h (by decide))), (fun h => c4 (bit_ne h (by decide))), (fun h => c5 (bit_ne h (by decide))), (fun h => c6 (bit_ne h (by decide))), (fun h => c7 (bit_ne h (by decide))), (fun _ => rfl), (fun h h2 => c9 (bit_ne h (by decide)) (bit_ne h2 (by decide))), (fun h => c10 (bit_ne h (by decide))), (fun h => c11 (bit_ne h (by decide))), (fun h => c12 (bit_ne h (by decide))), (fun h => c13 (bit_ne h (by decide))), (fun h => c14 (bit_ne h (by decide))), (fun h => c15 (bit_ne h (by decide))), (fun h => c16 (bit_ne h (by decide))), (fun h => c17 (bit_ne h (by decide)))⟩
              · obtain rfl := Option.some.inj ho
                have hsz : 9 < listed.size := by rw [hls]; decide
                have hdep8 : listed.getD 8 false = true := hall ⟨8, .data⟩ (by simp) (by rfl)
                obtain rfl := c8 hdep8
                have hdep7 : listed.getD 7 false = true := hall ⟨7, .guard⟩ (by simp) (by rfl)
                obtain rfl := c7 hdep7
                refine inv_callG 22 #[.pointer (some ⟨g, 0, none⟩)] _ rfl (by kernel_rfl) (by kernel_rfl) (hBy w hbW) ?_
                rintro e w' ⟨sp, cap, rfl, ow, hb⟩
                have hbw : Below B wc w' := hbW.trans (hb.mono (hsB hbW))
                refine ⟨_, rfl, ?_⟩
                exact ⟨s178, s179, s180, s181, s182, s183, s184, (.bool false), (.pointer (some ⟨g, 0, none⟩)), (.slice sp d'.bytes.length cap), s188, s189, s190, s191, s192, s193, s194, s195, rfl, hbw, (fun h => c0 (bit_ne h (by decide))), (fun h => c1 (bit_ne h (by decide))), (fun h => c2 (bit_ne h (by decide))), (fun h => c3 (bit_ne h (by decide))), (fun h => c4 (bit_ne h (by decide))), (fun h => c5 (bit_ne h (by decide))), (fun h => c6 (bit_ne h (by decide))), (fun h => c7 (bit_ne h (by decide))), (fun h => c8 (bit_ne h (by decide))), (fun _ _ => ⟨sp, cap, rfl, ow.mono (hsB hbW)⟩), (fun h => c10 (bit_ne h (by decide))), (fun h => c11 (bit_ne h (by decide))), (fun h => c12 (bit_ne h (by decide))), (fun h => c13 (bit_ne h (by decide))), (fun h => c14 (bit_ne h (by decide))), (fun h => c15 (bit_ne h (by decide))), (fun h => c16 (bit_ne h (by decide))), (fun h => c17 (bit_ne h (by decide)))⟩
              · obtain rfl := Option.some.inj ho
                have hsz : 10 < listed.size := by rw [hls]; decide
                have hdep9 : listed.getD 9 false = true := hall ⟨9, .data⟩ (by simp) (by rfl)
                obtain ⟨sp9, cap9, rfl, o9⟩ := c9 hdep9 hi
                have hdep7 : listed.getD 7 false = true := hall ⟨7, .guard⟩ (by simp) (by rfl)
                obtain rfl := c7 hdep7
                have hbw := hbW
                refine inv_valG (w' := w) (.string (strOfNums d'.bytes)) rfl (by kernel_rfl) (by have hq := q2 w sp9 cap9 o9.bytes; go_simp) ?_
                exact ⟨s178, s179, s180, s181, s182, s183, s184, (.bool false), s186, (.slice sp9 d'.bytes.length cap9), (.string (strOfNums d'.bytes)), s189, s190, s191, s192, s193, s194, s195, rfl, hbw, (fun h => c0 (bit_ne h (by decide))), (fun h => c1 (bit_ne h (by decide))), (fun h => c2 (bit_ne h (by decide))), (fun h => c3 (bit_ne h (by decide))), (fun h => c4 (bit_ne h (by decide))), (fun h => c5 (bit_ne h (by decide))), (fun h => c6 (bit_ne h (by decide))), (fun h => c7 (bit_ne h (by decide))), (fun h => c8 (bit_ne h (by decide))), (fun _ h2 => absurd (bit_on hsz) (by rw [h2]; decide)), (fun _ => rfl), (fun h => c11 (bit_ne h (by decide))), (fun h => c12 (bit_ne h (by decide))), (fun h => c13 (bit_ne h (by decide))), (fun h => c14 (bit_ne h (by decide))), (fun h => c15 (bit_ne h (by decide))), (fun h => c16 (bit_ne h (by decide))), (fun h => c17 (bit_ne h (by decide)))⟩
              · obtain rfl := Option.some.inj ho
                have hsz : 11 < listed.size := by rw [hls]; decide
                have hdep7 : listed.getD 7 false = true := hall ⟨7, .guard⟩ (by simp) (by rfl)
                obtain rfl := c7 hdep7
                have hbw := hbW
                refine inv_valG (w' := w) (.pointer (some ⟨g2, 0, none⟩)) rfl (by kernel_rfl) rfl ?_
                exact ⟨s178, s179, s180, s181, s182, s183, s184, (.bool false), s186, s187, s188, (.pointer (some ⟨g2, 0, none⟩)), s190, s191, s192, s193, s194, s195, rfl, hbw, (fun h => c0 (bit_ne h (by decide))), (fun h => c1 (bit_ne h (by decide))), (fun h => c2 (bit_ne h (by decide))), (fun h => c3 (bit_ne h (by decide))), (fun h => c4 (bit_ne h (by decide))), (fun h => c5 (bit_ne h (by decide))), (fun h => c6 (bit_ne h (by decide))), (fun h => c7 (bit_ne h (by decide))), (fun h => c8 (bit_ne h (by decide))), (fun h h2 => c9 (bit_ne h (by decide)) (bit_ne h2 (by decide))), (fun h => c10 (bit_ne h (by decide))), (fun _ => rfl), (fun h => c12 (bit_ne h (by decide))), (fun h => c13 (bit_ne h (by decide))), (fun h => c14 (bit_ne h (by decide))), (fun h => c15 (bit_ne h (by decide))), (fun h => c16 (bit_ne h (by decide))), (fun h => c17 (bit_ne h (by decide)))⟩
              · obtain rfl := Option.some.inj ho
                have hsz : 12 < listed.size := by rw [hls]; decide
                have hdep11 : listed.getD 11 false = true := hall ⟨11, .data⟩ (by simp) (by rfl)
                obtain rfl := c11 hdep11
                have hdep7 : listed.getD 7 false = true := hall ⟨7, .guard⟩ (by simp) (by rfl)
                obtain rfl := c7 hdep7
                have hbw := hbW
                refine inv_valG (w' := w) (.pointer (some ⟨g2, 0, none⟩)) rfl (by kernel_rfl) (by kernel_rfl) ?_
                exact ⟨s178, s179, s180, s181, s182, s183, s184, (.bool false), s186, s187, s188, (.pointer (some ⟨g2, 0, none⟩)), (.pointer (some ⟨g2, 0, none⟩)), s191, s192, s193, s194, s195, rfl, hbw, (fun h => c0 (bit_ne h (by decide))), (fun h => c1 (bit_ne h (by decide))), (fun h => c2 (bit_ne h (by decide))), (fun h => c3 (bit_ne h (by decide))), (fun h => c4 (bit_ne h (by decide))), (fun h => c5 (bit_ne h (by decide))), (fun h => c6 (bit_ne h (by decide))), (fun h => c7 (bit_ne h (by decide))), (fun h => c8 (bit_ne h (by decide))), (fun h h2 => c9 (bit_ne h (by decide)) (bit_ne h2 (by decide))), (fun h => c10 (bit_ne h (by decide))), (fun h => c11 (bit_ne h (by decide))), (fun _ => rfl), (fun h => c13 (bit_ne h (by decide))), (fun h => c14 (bit_ne h (by decide))), (fun h => c15 (bit_ne h (by decide))), (fun h => c16 (bit_ne h (by decide))), (fun h => c17 (bit_ne h (by decide)))⟩
              · obtain rfl := Option.some.inj ho
                have hsz : 13 < listed.size := by rw [hls]; decide
                have hdep12 : listed.getD 12 false = true := hall ⟨12, .data⟩ (by simp) (by rfl)
                obtain rfl := c12 hdep12
                have hdep7 : listed.getD 7 false = true := hall ⟨7, .guard⟩ (by simp) (by rfl)
                obtain rfl := c7 hdep7
                have hbw := hbW
                refine inv_valG (w' := w) (.pointer (some ⟨g2, 2, none⟩)) rfl (by kernel_rfl) (by kernel_rfl) ?_
                exact ⟨s178, s179, s180, s181, s182, s183, s184, (.bool false), s186, s187, s188, s189, (.pointer (some ⟨g2, 0, none⟩)), (.pointer (some ⟨g2, 2, none⟩)), s192, s193, s194, s195, rfl, hbw, (fun h => c0 (bit_ne h (by decide))), (fun h => c1 (bit_ne h (by decide))), (fun h => c2 (bit_ne h (by decide))), (fun h => c3 (bit_ne h (by decide))), (fun h => c4 (bit_ne h (by decide))), (fun h => c5 (bit_ne h (by decide))), (fun h => c6 (bit_ne h (by decide))), (fun h => c7 (bit_ne h (by decide))), (fun h => c8 (bit_ne h (by decide))), (fun h h2 => c9 (bit_ne h (by decide)) (bit_ne h2 (by decide))), (fun h => c10 (bit_ne h (by decide))), (fun h => c11 (bit_ne h (by decide))), (fun h => c12 (bit_ne h (by decide))), (fun _ => rfl), (fun h => c14 (bit_ne h (by decide))), (fun h => c15 (bit_ne h (by decide))), (fun h => c16 (bit_ne h (by decide))), (fun h => c17 (bit_ne h (by decide)))⟩
              · obtain rfl := Option.some.inj ho
                have hsz : 14 < listed.size := by rw [hls]; decide
                have hdep13 : listed.getD 13 false = true := hall ⟨13, .data⟩ (by simp) (by rfl)
                obtain rfl := c13 hdep13
                have hdep7 : listed.getD 7 false = true := hall ⟨7, .guard⟩ (by simp) (by rfl)
                obtain rfl := c7 hdep7
                have hbw := hbW
                refine inv_valG (w' := w) (.slice sp2 r'.bytes.length cap2) rfl (by kernel_rfl) (by have hq := (kk w hbW).2.1; go_simp) ?_
                exact ⟨s178, s179, s180, s181, s182, s183, s184, (.bool false), s186, s187, s188, s189, s190, (.pointer (some ⟨g2, 2, none⟩)), (.slice sp2 r'.bytes.length cap2), s193, s194, s195, rfl, hbw, (fun h => c0 (bit_ne h (by decide))), (fun h => c1 (bit_ne h (by decide))), (fun h => c2 (bit_ne h (by decide))), (fun h => c3 (bit_ne h (by decide))), (fun h => c4 (bit_ne h (by decide))), (fun h => c5 (bit_ne h (by decide))), (fun h => c6 (bit_ne h (by decide))), (fun h => c7 (bit_ne h (by decide))), (fun h => c8 (bit_ne h (by decide))), (fun h h2 => c9 (bit_ne h (by decide)) (bit_ne h2 (by decide))), (fun h => c10 (bit_ne h (by decide))), (fun h => c11 (bit_ne h (by decide))), (fun h => c12 (bit_ne h (by decide))), (fun h => c13 (bit_ne h (by decide))), (fun _ => rfl), (fun h => c15 (bit_ne h (by decide))), (fun h => c16 (bit_ne h (by decide))), (fun h => c17 (bit_ne h (by decide)))⟩
              · obtain rfl := Option.some.inj ho
                have hsz : 15 < listed.size := by rw [hls]; decide
                have hdep14 : listed.getD 14 false = true := hall ⟨14, .data⟩ (by simp) (by rfl)
                obtain rfl := c14 hdep14
                have hdep7 : listed.getD 7 false = true := hall ⟨7, .guard⟩ (by simp) (by rfl)
                obtain rfl := c7 hdep7
                have hbw := hbW
                refine inv_valG (w' := w) (.string (strOfNums d'.bytes)) rfl (by kernel_rfl) (by have hq := q1 w (kk w hbW).2.2; go_simp) ?_
                exact ⟨s178, s179, s180, s181, s182, s183, s184, (.bool false), s186, s187, s188, s189, s190, s191, (.slice sp2 r'.bytes.length cap2), (.string (strOfNums d'.bytes)), s194, s195, rfl, hbw, (fun h => c0 (bit_ne h (by decide))), (fun h => c1 (bit_ne h (by decide))), (fun h => c2 (bit_ne h (by decide))), (fun h => c3 (bit_ne h (by decide))), (fun h => c4 (bit_ne h (by decide))), (fun h => c5 (bit_ne h (by decide))), (fun h => c6 (bit_ne h (by decide))), (fun h => c7 (bit_ne h (by decide))), (fun h => c8 (bit_ne h (by decide))), (fun h h2 => c9 (bit_ne h (by decide)) (bit_ne h2 (by decide))), (fun h => c10 (bit_ne h (by decide))), (fun h => c11 (bit_ne h (by decide))), (fun h => c12 (bit_ne h (by decide))), (fun h => c13 (bit_ne h (by decide))), (fun h => c14 (bit_ne h (by decide))), (fun _ => rfl), (fun h => c16 (bit_ne h (by decide))), (fun h => c17 (bit_ne h (by decide)))⟩
              · obtain rfl := Option.some.inj ho
                have hsz : 16 < listed.size := by rw [hls]; decide
                have hdep10 : listed.getD 10 false = true := hall ⟨10, .data⟩ (by simp) (by rfl)
                obtain rfl := c10 hdep10
                have hdep15 : listed.getD 15 false = true := hall ⟨15, .data⟩ (by simp) (by rfl)
                obtain rfl := c15 hdep15
                have hdep7 : listed.getD 7 false = true := hall ⟨7, .guard⟩ (by simp) (by rfl)
                obtain rfl := c7 hdep7
                have hbw := hbW
                refine inv_valG (w' := w) (.bool false) rfl (by kernel_rfl) (by go_simp) ?_
                exact ⟨s178, s179, s180, s181, s182, s183, s184, (.bool false), s186, s187, (.string (strOfNums d'.bytes)), s189, s190, s191, s192, (.string (strOfNums d'.bytes)), (.bool false), s195, rfl, hbw, (fun h => c0 (bit_ne h (by decide))), (fun h => c1 (bit_ne h (by decide))), (fun h => c2 (bit_ne h (by decide))), (fun h => c3 (bit_ne h (by decide))), (fun h => c4 (bit_ne h (by decide))), (fun h => c5 (bit_ne h (by decide))), (fun h => c6 (bit_ne h (by decide))), (fun h => c7 (bit_ne h (by decide))), (fun h => c8 (bit_ne h (by decide))), (fun h h2 => c9 (bit_ne h (by decide)) (bit_ne h2 (by decide))), (fun h => c10 (bit_ne h (by decide))), (fun h => c11 (bit_ne h (by decide))), (fun h => c12 (bit_ne h (by decide))), (fun h => c13 (bit_ne h (by decide))), (fun h => c14 (bit_ne h (by decide))), (fun h => c15 (bit_ne h (by decide))), (fun _ => rfl), (fun h => c17 (bit_ne h (by decide)))⟩
              · obtain rfl := Option.some.inj ho
                have hsz : 17 < listed.size := by rw [hls]; decide
                have hdep7 : listed.getD 7 false = true := hall ⟨7, .data⟩ (by simp) (by rfl)
                obtain rfl := c7 hdep7
                have hdep16 : listed.getD 16 false = true := hall ⟨16, .data⟩ (by simp) (by rfl)
                obtain rfl := c16 hdep16
                have hbw := hbW
                refine inv_val (w' := w) (.bool false) rfl rfl (by go_simp) ?_
                exact ⟨s178, s179, s180, s181, s182, s183, s184, (.bool false), s186, s187, s188, s189, s190, s191, s192, s193, (.bool false), (.bool false), rfl, hbw, (fun h => c0 (bit_ne h (by decide))), (fun h => c1 (bit_ne h (by decide))), (fun h => c2 (bit_ne h (by decide))), (fun h => c3 (bit_ne h (by decide))), (fun h => c4 (bit_ne h (by decide))), (fun h => c5 (bit_ne h (by decide))), (fun h => c6 (bit_ne h (by decide))), (fun h => c7 (bit_ne h (by decide))), (fun h => c8 (bit_ne h (by decide))), (fun h h2 => c9 (bit_ne h (by decide)) (bit_ne h2 (by decide))), (fun h => c10 (bit_ne h (by decide))), (fun h => c11 (bit_ne h (by decide))), (fun h => c12 (bit_ne h (by decide))), (fun h => c13 (bit_ne h (by decide))), (fun h => c14 (bit_ne h (by decide))), (fun h => c15 (bit_ne h (by decide))), (fun h => c16 (bit_ne h (by decide))), (fun _ => rfl)⟩
            · intro listed a w hall hJ
              obtain ⟨s178, s179, s180, s181, s182, s183, s184, s185, s186, s187, s188, s189, s190, s191, s192, s193, s194, s195, rfl, hbW, c0, c1, c2, c3, c4, c5, c6, c7, c8, c9, c10, c11, c12, c13, c14, c15, c16, c17⟩ := hJ
              obtain rfl := c0 (hall 0 (by decide))
              obtain rfl := c1 (hall 1 (by decide))
              obtain rfl := c2 (hall 2 (by decide))
              obtain rfl := c3 (hall 3 (by decide))
              obtain rfl := c4 (hall 4 (by decide))
              obtain rfl := c5 (hall 5 (by decide))
              obtain rfl := c6 (hall 6 (by decide))
              obtain rfl := c7 (hall 7 (by decide))
              obtain rfl := c8 (hall 8 (by decide))
              obtain rfl := c10 (hall 10 (by decide))
              obtain rfl := c11 (hall 11 (by decide))
              obtain rfl := c12 (hall 12 (by decide))
              obtain rfl := c13 (hall 13 (by decide))
              obtain rfl := c14 (hall 14 (by decide))
              obtain rfl := c15 (hall 15 (by decide))
              obtain rfl := c16 (hall 16 (by decide))
              obtain rfl := c17 (hall 17 (by decide))
              have t2 := t'.later (by rw [← hB]; exact hbW)
              clear t' kk hBy hLa hall q1 q2 eR hrB
              clear hB hbW hsB
              generalize w = w9 at *
              go_wp2
              go_roundw
              case rel => exact ⟨j + 1, h', a', h2', b', d', r', last', rfl, rfl, by go_num, by omega, t2.lv, hk', hs', hby', hl0', by omega⟩
              case measure => simp [intOf]; omega
        · have hbd : decide ((x.b.length : Int) > 30) = true := by simp; omega
          go_wp2
          go_roundw
          case rel => exact ⟨j + 1, h, a, h2, b, d, r, last, rfl, rfl, by go_num, by omega, t.lv, hk, hs, hby, hl0, by omega⟩
          case measure => simp [intOf]; omega
      · have hlt' : decide ((j : Int) < cs.length) = true := by simp; omega
        have h60' : decide ((j : Int) < 60) = false := by simp; omega
        go_wp2
        go_ret
        exact ⟨rfl, tv.two.below⟩
    · have hlt' : decide ((j : Int) < cs.length) = false := by simp; omega
      go_wp2
      go_ret
      exact ⟨rfl, tv.two.below⟩
end Go.Proofs.Ytmfcildkkeeneaa
