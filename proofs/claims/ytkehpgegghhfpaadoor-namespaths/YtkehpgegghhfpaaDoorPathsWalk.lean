/- NamesPaths returns true and turns no old memory, for any texts, rows of numbers and lists of texts, where MaxLen holds some number. -/
import Derived.Test.YtkehpgegghhfpaaDoorPathsMath
import Derived.Test.YtkehpgegghhfpaaDoorPathsEarly
import Derived.Test.YtkehpgegghhfpaaDoorPartsWalk
import Derived.Test.YtkehpgegghhfpaaDoorMild
namespace Go.Proofs.YtkehpgegghhfpaaDoor
open Go.RowKit

def rowV (rs : List ByteArray) : Array Value := (rs.map Value.string).toArray
theorem rowV_at {rs : List ByteArray} {j : Nat} (h : j < rs.length) : (rowV rs)[j]? = some (.string (rs.getD j ByteArray.empty)) := by
  simp [rowV, List.getD, h]

set_option maxRecDepth 20000 in
set_option maxHeartbeats 4000000 in
theorem paths_main (s piece : ByteArray) (zss : List (List Int)) (raw : List ByteArray) (p1 p2 : Option Addr) (c1 c2 : Nat) (at' : Int) (w : World) (hm : MaxOk w) (hz2 : Ints2 w p1 zss) (hst : Strs w p2 raw) (hrc : raw.length ≤ c2)
    (hs : s.size ≤ 500) (hp : piece.size ≤ 100) (hr : raw.length ≤ 10) (hl : zss.length ≤ 10) :
    Calls Tryd.prog 4 #[.string s, .slice p1 zss.length c1, .string piece, .int .i64 at', .slice p2 raw.length c2] w fun e w' => e = .returned (.bool true) ∧ Below w.heap.size w w' := by
  have q1 : decide ((500 : Int) < (s.size : Int)) = false := by simp; omega
  have q2 : decide ((100 : Int) < (piece.size : Int)) = false := by simp; omega
  have q3 : decide ((10 : Int) < (raw.length : Int)) = false := by simp; omega
  have q4 : decide ((10 : Int) < (zss.length : Int)) = false := by simp; omega
  go_enter Tryd.func4, Tryd.ntmps4
  go_wp2_with (first | (go_at_call 8; (with_reducible refine Calls.mono (known_any _ hm) ?_); rintro e w0 ⟨rfl, hb0⟩))
  clear q1 q2 q3 q4
  go_loop [11, 12] (fun n i => ∃ k m : Nat, n = .int .i64 m ∧ i = .int .i64 k ∧ k ≤ raw.length ∧ m ≤ 200 * k ∧ ∀ x ∈ raw.take k, x.size ≤ 200) (fun _ i => raw.length - (intOf i).toNat)
  case atStart => exact ⟨0, 0, rfl, rfl, by omega, by omega, by simp⟩
  case round =>
    obtain ⟨k, m, rfl, rfl, hk, hm2, hsm⟩ := hrel
    by_cases hlt : k < raw.length
    · obtain ⟨b, o, rfl, hc⟩ := hst.below hb0 (Nat.le_refl _) (by omega)
      have hcell := hc k hlt
      have hnext : (raw.getD k ByteArray.empty).size ≤ 200 → ∀ x ∈ raw.take (k + 1), x.size ≤ 200 := fun h x hx => by
        rw [List.take_add_one, List.getElem?_eq_getElem hlt] at hx
        rcases List.mem_append.1 hx with hx | hx
        · exact hsm x hx
        · have e : raw.getD k ByteArray.empty = raw[k] := by simp [List.getD, hlt]
          simp only [Option.toList, List.mem_singleton] at hx
          rw [hx, ← e]; exact h
      generalize raw.getD k ByteArray.empty = x at *
      clear hc hst hsm
      by_cases h200 : 200 < x.size
      · have q1 : decide ((200 : Int) < (x.size : Int)) = true := by simp; omega
        clear hnext
        go_wp2
        go_ret
        exact ⟨rfl, hb0⟩
      · have q1 : decide ((200 : Int) < (x.size : Int)) = false := by simp; omega
        have hn := hnext (by omega)
        clear hnext
        go_wp2
        go_round
        case rel => exact ⟨k + 1, m + x.size, by go_num, by go_num, by omega, by omega, hn⟩
        case measure => simp [intOf]; omega
    · obtain rfl : k = raw.length := by omega
      rw [List.take_length] at hsm
      clear hlt hk hm2
      go_wp2
      go_loopw [13, 14] (fun v i wr => ∃ k : Nat, i = .int .i64 k ∧ k ≤ zss.length ∧ Own wr w.heap.size v (nms (zss.take k)) ∧ Below w.heap.size w wr) (fun _ i _ => zss.length - (intOf i).toNat)
      case atStart => exact ⟨0, rfl, by omega, Own.nil _ _, hb0⟩
      case round =>
        obtain ⟨k, rfl, hk, hown, hbe⟩ := hrel
        clear hb0
        by_cases hlt : k < zss.length
        · obtain ⟨b, o, rfl, hc⟩ := hz2.below hbe (Nat.le_refl _) (by omega)
          obtain ⟨q, cq, hcell, hin, hln⟩ := hc k hlt
          have hnm := nms_take hlt
          have hname := fun w' h => name_any (zss.getD k []) q cq w' h (by unfold maxLen at hln; exact hln)
          have hlen : (nms (zss.take k)).length = k := by simp [nms]; omega
          generalize nm (zss.getD k []) = N at *
          generalize zss.getD k [] = z at *
          generalize nms (zss.take k) = ds at *
          clear hc hz2 hsm hst
          have hB0 := hbe.size
          go_wp2_with (first | (go_at_call 9; (with_reducible refine Calls.mono (hname _ hin) ?_); rintro e w1 ⟨rfl, hb1⟩; have hown1 := hown.below hb1; have hB1 := hbe.trans (hb1.mono hbe.size)) | (at_builtin; refine app_own ?hw _ _ rfl w.heap.size w.heap.size ?hB _ _ ds [N] rfl rfl (hown1.alloc _) (Own.new w1 w.heap.size [N] #[.string N] rfl hB1.size (show 1 ≤ maxLen by decide)) ?hl ?_; (case hw => rfl); (case hB => simp; exact Nat.le_succ_of_le hB1.size); (case hl => simp; omega)))
          intro v' w2 hown2 hgr
          have hB2 := (hB1.alloc hB1.size (.cells #[.string N] 9)).grown hgr (by simp; exact Nat.le_succ_of_le hB1.size) (fun j hj => (hown1.lt j hj).1)
          rw [← hnm] at hown2
          clear hgr
          go_wp2
          go_roundw
          case rel => exact ⟨k + 1, by go_num, by omega, hown2, hB2⟩
          case measure => simp [intOf]; omega
        · obtain rfl : k = zss.length := by omega
          rw [List.take_length] at hown
          clear hlt hk hz2
          have hjs := jn_size zss hl
          have hsz := nms_size zss
          have hxl : (nms zss).length = zss.length := by simp [nms]
          have herr := nms_err zss
          have hspl := nms_split zss
          obtain ⟨px, cx, rfl, hxs, hpc⟩ := hown.strs
          have hjoin := fun w1 hx => join_jn (nms zss) px cx w1 hx hpc (fun x hx => by have := hsz x hx; omega)
          have hrjoin := fun w1 hx => rjoin_jn (nms zss) px cx w1 hx (fun x hx => by have := hsz x hx; omega)
          rw [herr] at hjoin hrjoin
          have hsame := fun p q c d w1 hx hy => same_any (nms zss) (nms zss) p q c d w1 hx hy (by omega) (by omega)
          rw [decide_eq_true (rfl : nms zss = nms zss)] at hsame
          have hspJ := fun h5 w1 h => split_of (jn (nms zss)) (nms zss) 0 w1 (by omega) h (hspl h5).1 (hspl h5).2
          generalize jn (nms zss) = J at *
          generalize nms zss = xs at *
          have hxn : xs.length ≤ 10 := by omega
          clear hspl hsz herr hxl
          have j1 : (J.toList != J.toList) = false := by simp
          have k0 := Int.emod_nonneg at' (show ((J.size : Int) + 1) ≠ 0 by omega)
          have k1 := Int.emod_lt_of_pos at' (show (0 : Int) < (J.size : Int) + 1 by omega)
          obtain ⟨k, hk⟩ : ∃ k : Nat, at' % ((J.size : Int) + 1) = k := ⟨(at' % ((J.size : Int) + 1)).toNat, by omega⟩
          have hw10 := fun w1 => within_any at' ((J.size : Int) + 1) w1 (by omega) (by omega)
          rw [hk] at hw10 k0 k1
          have hkJ : k ≤ J.size := by omega
          clear hk k0 k1
          by_cases h5 : 5 < zss.length
          · rw [if_pos h5] at hjoin hrjoin
            clear hspJ hsame
            go_wp2_with (first | (go_at_call 13; (with_reducible refine Calls.mono (hjoin _ hxs) ?_); rintro e w1 ⟨rfl, hb1⟩; have hB1 := hbe.trans (hb1.mono hbe.size)) | (go_at_call 14; (with_reducible refine Calls.mono (hrjoin _ (hxs.below hb1 (Nat.le_refl _))) ?_); rintro e w2 ⟨rfl, hw⟩; obtain rfl := hw.symm; clear hw) | (go_at_call 10; (with_reducible refine Calls.mono (hw10 _) ?_); rintro e w3 ⟨rfl, hw⟩; obtain rfl := hw.symm; clear hw))
            refine wp_region_quiet_tail 17 (by kernel_rfl) (by kernel_rfl) ?_
            simp only [List.take_succ_cons, List.take_zero, List.drop_succ_cons, List.drop_zero]
            repeat (go_big_quiet_step (fail))
            refine wpQuiet_nil ?_
            rintro _ ⟨nq, rfl⟩
            have hB1 := below_drewN hB1 nq
            go_wp2
            have hrow : Row ((w1.drewN nq).alloc (.cells (rowV (rows5 s J piece k)) 9)) w1.heap.size 9 (rowV (rows5 s J piece k)) := Row.new (w1.drewN nq) 9 (rowV (rows5 s J piece k))
            have hB2 : Below w.heap.size w ((w1.drewN nq).alloc (.cells (rowV (rows5 s J piece k)) 9)) := hB1.alloc hB1.size _
            change Code.wp _ _ _ _ ((w1.drewN nq).alloc (.cells (rowV (rows5 s J piece k)) 9))
            have hrs := rows5_size s J piece k hs hjs hp
            have hr5 : (rows5 s J piece k).length = 5 := rfl
            generalize (w1.drewN nq).alloc (.cells (rowV (rows5 s J piece k)) 9) = w2 at *
            generalize rows5 s J piece k = rs at *
            clear hB1 hjoin hrjoin hw10
            go_loopw [23] (fun i wr => ∃ j : Nat, i = .int .i64 j ∧ j ≤ 5 ∧ Row wr w1.heap.size 9 (rowV rs) ∧ Below w.heap.size w wr) (fun i _ => 5 - (intOf i).toNat)
            case atStart => exact ⟨0, rfl, by omega, hrow, hB2⟩
            case round =>
              obtain ⟨j, rfl, hj, hrow, hbe⟩ := hrel
              clear hB2
              by_cases hlt : j < 5
              · have hcell := hrow.cell (j := j)
                rw [rowV_at (by omega)] at hcell
                have hv := rowV_at (rs := rs) (j := j) (by omega)
                have hR : (rs.getD j ByteArray.empty).size ≤ 2000 := by
                  rw [List.getD_eq_getElem?_getD, List.getElem?_eq_getElem (by omega)]; exact hrs _ (by simp)
                generalize rs.getD j ByteArray.empty = R at *
                have hsp := fun w1 h => split_spB R w1 (by omega) h
                have hrsp := fun w1 => rsplit_spB R w1 (by omega)
                have hyl := spB_len R
                have hgood := spB_good R
                have hsame := fun p q c d w1 hx hy => same_any (spB R) (spB R) p q c d w1 hx hy (by omega) (by omega)
                rw [decide_eq_true (rfl : spB R = spB R)] at hsame
                have hjn := fun p c w1 hx hc (h : splE R.data.toList = 0) => join_jn (spB R) p c w1 hx hc (fun x hx => by have := (hgood h).2.2 x hx; omega)
                have eR : (R.toList != R.toList) = false := by simp
                generalize splE R.data.toList = E at *
                by_cases hE : E = 0
                · subst hE
                  obtain ⟨g1, g2, _⟩ := hgood rfl
                  rw [g1, g2] at hjn
                  have hjn2 := fun p c w1 hx hc => hjn p c w1 hx hc rfl
                  clear hjn
                  generalize spB R = ys at *
                  clear hgood g1 g2 hrs hv hst hsm
                  go_wp2_with (first | (go_at_call 15; (with_reducible refine Calls.mono (hsp _ (hm.below hbe (Nat.le_refl _))) ?_); rintro e w3 ⟨py, cy, rfl, hsy, hcy, hb3⟩; have hr3 := hrow.below hb3 hrow.lt; have hcell3 := (hb3.cell (p := ⟨w1.heap.size, j, none⟩) hrow.lt).trans hcell) | (go_at_call 17; (with_reducible refine Calls.mono (hrsp _) ?_); rintro e w4 ⟨pz, cz, rfl, hsz4, hcz, hb4⟩; have hr4 := hr3.below hb4 hr3.lt; have hsy4 := hsy.below hb4 (Nat.le_refl _)) | (go_at_call 16; (with_reducible refine Calls.mono (hsame _ _ _ _ _ hsy4 hsz4) ?_); rintro e w5 ⟨rfl, hb5⟩; have hr5' := hr4.below hb5 hr4.lt; have hsy5 := hsy4.below hb5 (Nat.le_refl _)) | (go_at_call 13; (with_reducible refine Calls.mono (hjn2 _ _ _ hsy5 hcy) ?_); rintro e w6 ⟨rfl, hb6⟩; have hr6 := hr5'.below hb6 hr5'.lt; have hcell6 := (hb6.cell (p := ⟨w1.heap.size, j, none⟩) hr5'.lt).trans ((hb5.cell (p := ⟨w1.heap.size, j, none⟩) hr4.lt).trans ((hb4.cell (p := ⟨w1.heap.size, j, none⟩) hr3.lt).trans hcell3))))
                  go_roundw
                  case rel => exact ⟨j + 1, by go_num, by omega, hr6, hbe.trans ((((hb3.trans (hb4.mono hb3.size)).trans (hb5.mono (Nat.le_trans hb3.size hb4.size))).trans (hb6.mono (Nat.le_trans (Nat.le_trans hb3.size hb4.size) hb5.size))).mono hbe.size)⟩
                  case measure => simp [intOf]; omega
                · have qE : (E == 0) = false := by rw [beq_eq_false_iff_ne]; exact hE
                  have qE2 : (E != E) = false := by simp
                  generalize spB R = ys at *
                  clear hgood hjn hrs hv hst hsm hE
                  go_wp2_with (first | (go_at_call 15; (with_reducible refine Calls.mono (hsp _ (hm.below hbe (Nat.le_refl _))) ?_); rintro e w3 ⟨py, cy, rfl, hsy, hcy, hb3⟩; have hr3 := hrow.below hb3 hrow.lt; have hcell3 := (hb3.cell (p := ⟨w1.heap.size, j, none⟩) hrow.lt).trans hcell) | (go_at_call 17; (with_reducible refine Calls.mono (hrsp _) ?_); rintro e w4 ⟨pz, cz, rfl, hsz4, hcz, hb4⟩; have hr4 := hr3.below hb4 hr3.lt; have hsy4 := hsy.below hb4 (Nat.le_refl _)) | (go_at_call 16; (with_reducible refine Calls.mono (hsame _ _ _ _ _ hsy4 hsz4) ?_); rintro e w5 ⟨rfl, hb5⟩; have hr5' := hr4.below hb5 hr4.lt))
                  go_roundw
                  case rel => exact ⟨j + 1, by go_num, by omega, hr5', hbe.trans (((hb3.trans (hb4.mono hb3.size)).trans (hb5.mono (Nat.le_trans hb3.size hb4.size))).mono hbe.size)⟩
                  case measure => simp [intOf]; omega
              · obtain rfl : j = 5 := by omega
                have hj1 := fun w1 hx => join_jn raw p2 c2 w1 hx hrc (fun x hx => by have := hsm x hx; omega)
                have hj2 := fun w1 hx => rjoin_jn raw p2 c2 w1 hx (fun x hx => by have := hsm x hx; omega)
                have hsr := hst.below hbe (Nat.le_refl _)
                generalize jn raw = JR at *
                generalize allE (Ls raw) = AR at *
                have e1 : (JR.toList == JR.toList) = true := by simp
                have e2 : (AR == AR) = true := by simp
                clear hlt hj hrow hrs hst hsm
                go_wp2_with (first | (go_at_call 13; (with_reducible refine Calls.mono (hj1 _ hsr) ?_); rintro e w3 ⟨rfl, hb3⟩) | (go_at_call 14; (with_reducible refine Calls.mono (hj2 _ (hsr.below hb3 (Nat.le_refl _))) ?_); rintro e w4 ⟨rfl, hw⟩; obtain rfl := hw.symm; clear hw))
                go_ret
                exact ⟨rfl, hbe.trans (hb3.mono hbe.size)⟩
          · rw [if_neg h5] at hjoin hrjoin
            have hspJ := hspJ (by omega)
            go_wp2_with (first | (go_at_call 13; (with_reducible refine Calls.mono (hjoin _ hxs) ?_); rintro e w0' ⟨rfl, hb1⟩; have hB0 := hbe.trans (hb1.mono hbe.size); have hx1 := hxs.below hb1 (Nat.le_refl _)) | (go_at_call 14; (with_reducible refine Calls.mono (hrjoin _ hx1) ?_); rintro e w2 ⟨rfl, hw⟩; obtain rfl := hw.symm; clear hw) | (go_at_call 15; (with_reducible refine Calls.mono (hspJ _ (hm.below hB0 (Nat.le_refl _))) ?_); rintro e w3 ⟨py, cy, rfl, hsy, hcy, hb3⟩) | (go_at_call 16; (with_reducible refine Calls.mono (hsame _ _ _ _ _ hsy (hx1.below hb3 (Nat.le_refl _))) ?_); rintro e w1 ⟨rfl, hb4⟩; have hB1 := hB0.trans ((hb3.trans (hb4.mono hb3.size)).mono hB0.size)) | (go_at_call 10; (with_reducible refine Calls.mono (hw10 _) ?_); rintro e w3 ⟨rfl, hw⟩; obtain rfl := hw.symm; clear hw))
            clear hspJ hsame hsy hx1 hxs
            refine wp_region_quiet_tail 17 (by kernel_rfl) (by kernel_rfl) ?_
            simp only [List.take_succ_cons, List.take_zero, List.drop_succ_cons, List.drop_zero]
            repeat (go_big_quiet_step (fail))
            refine wpQuiet_nil ?_
            rintro _ ⟨nq, rfl⟩
            have hB1 := below_drewN hB1 nq
            go_wp2
            have hrow : Row ((w1.drewN nq).alloc (.cells (rowV (rows5 s J piece k)) 9)) w1.heap.size 9 (rowV (rows5 s J piece k)) := Row.new (w1.drewN nq) 9 (rowV (rows5 s J piece k))
            have hB2 : Below w.heap.size w ((w1.drewN nq).alloc (.cells (rowV (rows5 s J piece k)) 9)) := hB1.alloc hB1.size _
            change Code.wp _ _ _ _ ((w1.drewN nq).alloc (.cells (rowV (rows5 s J piece k)) 9))
            have hrs := rows5_size s J piece k hs hjs hp
            have hr5 : (rows5 s J piece k).length = 5 := rfl
            generalize (w1.drewN nq).alloc (.cells (rowV (rows5 s J piece k)) 9) = w2 at *
            generalize rows5 s J piece k = rs at *
            clear hB1 hjoin hrjoin hw10
            go_loopw [23] (fun i wr => ∃ j : Nat, i = .int .i64 j ∧ j ≤ 5 ∧ Row wr w1.heap.size 9 (rowV rs) ∧ Below w.heap.size w wr) (fun i _ => 5 - (intOf i).toNat)
            case atStart => exact ⟨0, rfl, by omega, hrow, hB2⟩
            case round =>
              obtain ⟨j, rfl, hj, hrow, hbe⟩ := hrel
              clear hB2
              by_cases hlt : j < 5
              · have hcell := hrow.cell (j := j)
                rw [rowV_at (by omega)] at hcell
                have hv := rowV_at (rs := rs) (j := j) (by omega)
                have hR : (rs.getD j ByteArray.empty).size ≤ 2000 := by
                  rw [List.getD_eq_getElem?_getD, List.getElem?_eq_getElem (by omega)]; exact hrs _ (by simp)
                generalize rs.getD j ByteArray.empty = R at *
                have hsp := fun w1 h => split_spB R w1 (by omega) h
                have hrsp := fun w1 => rsplit_spB R w1 (by omega)
                have hyl := spB_len R
                have hgood := spB_good R
                have hsame := fun p q c d w1 hx hy => same_any (spB R) (spB R) p q c d w1 hx hy (by omega) (by omega)
                rw [decide_eq_true (rfl : spB R = spB R)] at hsame
                have hjn := fun p c w1 hx hc (h : splE R.data.toList = 0) => join_jn (spB R) p c w1 hx hc (fun x hx => by have := (hgood h).2.2 x hx; omega)
                have eR : (R.toList != R.toList) = false := by simp
                generalize splE R.data.toList = E at *
                by_cases hE : E = 0
                · subst hE
                  obtain ⟨g1, g2, _⟩ := hgood rfl
                  rw [g1, g2] at hjn
                  have hjn2 := fun p c w1 hx hc => hjn p c w1 hx hc rfl
                  clear hjn
                  generalize spB R = ys at *
                  clear hgood g1 g2 hrs hv hst hsm
                  go_wp2_with (first | (go_at_call 15; (with_reducible refine Calls.mono (hsp _ (hm.below hbe (Nat.le_refl _))) ?_); rintro e w3 ⟨py, cy, rfl, hsy, hcy, hb3⟩; have hr3 := hrow.below hb3 hrow.lt; have hcell3 := (hb3.cell (p := ⟨w1.heap.size, j, none⟩) hrow.lt).trans hcell) | (go_at_call 17; (with_reducible refine Calls.mono (hrsp _) ?_); rintro e w4 ⟨pz, cz, rfl, hsz4, hcz, hb4⟩; have hr4 := hr3.below hb4 hr3.lt; have hsy4 := hsy.below hb4 (Nat.le_refl _)) | (go_at_call 16; (with_reducible refine Calls.mono (hsame _ _ _ _ _ hsy4 hsz4) ?_); rintro e w5 ⟨rfl, hb5⟩; have hr5' := hr4.below hb5 hr4.lt; have hsy5 := hsy4.below hb5 (Nat.le_refl _)) | (go_at_call 13; (with_reducible refine Calls.mono (hjn2 _ _ _ hsy5 hcy) ?_); rintro e w6 ⟨rfl, hb6⟩; have hr6 := hr5'.below hb6 hr5'.lt; have hcell6 := (hb6.cell (p := ⟨w1.heap.size, j, none⟩) hr5'.lt).trans ((hb5.cell (p := ⟨w1.heap.size, j, none⟩) hr4.lt).trans ((hb4.cell (p := ⟨w1.heap.size, j, none⟩) hr3.lt).trans hcell3))))
                  go_roundw
                  case rel => exact ⟨j + 1, by go_num, by omega, hr6, hbe.trans ((((hb3.trans (hb4.mono hb3.size)).trans (hb5.mono (Nat.le_trans hb3.size hb4.size))).trans (hb6.mono (Nat.le_trans (Nat.le_trans hb3.size hb4.size) hb5.size))).mono hbe.size)⟩
                  case measure => simp [intOf]; omega
                · have qE : (E == 0) = false := by rw [beq_eq_false_iff_ne]; exact hE
                  have qE2 : (E != E) = false := by simp
                  generalize spB R = ys at *
                  clear hgood hjn hrs hv hst hsm hE
                  go_wp2_with (first | (go_at_call 15; (with_reducible refine Calls.mono (hsp _ (hm.below hbe (Nat.le_refl _))) ?_); rintro e w3 ⟨py, cy, rfl, hsy, hcy, hb3⟩; have hr3 := hrow.below hb3 hrow.lt; have hcell3 := (hb3.cell (p := ⟨w1.heap.size, j, none⟩) hrow.lt).trans hcell) | (go_at_call 17; (with_reducible refine Calls.mono (hrsp _) ?_); rintro e w4 ⟨pz, cz, rfl, hsz4, hcz, hb4⟩; have hr4 := hr3.below hb4 hr3.lt; have hsy4 := hsy.below hb4 (Nat.le_refl _)) | (go_at_call 16; (with_reducible refine Calls.mono (hsame _ _ _ _ _ hsy4 hsz4) ?_); rintro e w5 ⟨rfl, hb5⟩; have hr5' := hr4.below hb5 hr4.lt))
                  go_roundw
                  case rel => exact ⟨j + 1, by go_num, by omega, hr5', hbe.trans (((hb3.trans (hb4.mono hb3.size)).trans (hb5.mono (Nat.le_trans hb3.size hb4.size))).mono hbe.size)⟩
                  case measure => simp [intOf]; omega
              · obtain rfl : j = 5 := by omega
                have hj1 := fun w1 hx => join_jn raw p2 c2 w1 hx hrc (fun x hx => by have := hsm x hx; omega)
                have hj2 := fun w1 hx => rjoin_jn raw p2 c2 w1 hx (fun x hx => by have := hsm x hx; omega)
                have hsr := hst.below hbe (Nat.le_refl _)
                generalize jn raw = JR at *
                generalize allE (Ls raw) = AR at *
                have e1 : (JR.toList == JR.toList) = true := by simp
                have e2 : (AR == AR) = true := by simp
                clear hlt hj hrow hrs hst hsm
                go_wp2_with (first | (go_at_call 13; (with_reducible refine Calls.mono (hj1 _ hsr) ?_); rintro e w3 ⟨rfl, hb3⟩) | (go_at_call 14; (with_reducible refine Calls.mono (hj2 _ (hsr.below hb3 (Nat.le_refl _))) ?_); rintro e w4 ⟨rfl, hw⟩; obtain rfl := hw.symm; clear hw))
                go_ret
                exact ⟨rfl, hbe.trans (hb3.mono hbe.size)⟩
end Go.Proofs.YtkehpgegghhfpaaDoor
