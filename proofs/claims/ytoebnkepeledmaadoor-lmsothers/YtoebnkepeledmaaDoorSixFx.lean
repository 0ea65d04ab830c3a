/- The reference's Check of lms: a signature whose type is no leaf's. No old memory turns. -/
import Derived.Test.YtoebnkepeledmaaDoorSixCx
import Derived.Test.YtoebnkepeledmaaDoorSixMx
import Derived.Test.YtoebnkepeledmaaDoorGm
namespace Go.Proofs.YtoebnkepeledmaaDoor
open Go Go.RowKit

set_option maxRecDepth 20000 in
set_option maxHeartbeats 2000000 in
theorem sixCheck_back (P : List Int) (pp mp sp : Option Addr) (pl pc ml mc sl sc : Nat) (w0 : World) (hPl : P.length = pl) (hpc : pl ≤ pc) (hPb : Bytes w0 pp P) (hPr : ∀ x ∈ P, 0 ≤ x ∧ x < 256) (sig : List Int) (hsl : sig.length = sl) (hsc : sl ≤ sc) (hsb : Bytes w0 sp sig) (hsr : ∀ x ∈ sig, 0 ≤ x ∧ x < 256) (h : Nat) (hk : keyOk P) (hh : num4 P 0 = (h : Int)) (hne : sl = 4300 + 32 * h) (hx : num4 sig 4296 = (h : Int)) (q : Nat) (hqq : num4 sig 0 = (q : Int)) (hq : q < 2 ^ h) (hty : ((sig.drop 4).take 4292).take 4 ≠ n4 2) :
    Calls Tryd.prog 28 #[.slice pp pl pc, .slice mp ml mc, .slice sp sl sc] w0 fun e w' => e = .returned (.int .i64 12) ∧ Below w0.heap.size w0 w' := by
  obtain ⟨hP56, g1, g2, g3⟩ := hk
  have h56 : pl = 56 := by omega
  have hget := fun wx hb => six_get_any P pp pl pc wx (by omega) hPl hb hPr
  obtain ⟨b, o, rfl, hc0⟩ := hPb (by omega)
  have hget4 := fun wx (hb : Bytes wx (some ⟨b, o, none⟩) P) => six_get_any (P.drop 4) (some ⟨b, o + 4, none⟩) (pl - 4) (pc - 4) wx (by rw [List.length_drop]; omega) (by rw [List.length_drop]; omega) (Bytes.drop hb 4) (fun x hx => hPr x (List.mem_of_mem_drop hx))
  simp only [get_at] at hget4
  have hsl4 : Hid (((sig.drop 4).take 4292).length = 4292) := by show ((sig.drop 4).take 4292).length = 4292; simp; omega
  have hcp4 : Hid (4292 ≤ sc - 4) := by show 4292 ≤ sc - 4; omega
  have hsc4 : ¬ sc = 4 := by omega
  have hsc96 : (4296 : Int) ≤ (sc : Int) := by omega
  have hty' : Hid ((!((strOfNums (((sig.drop 4).take 4292).take 4)).toList == (strOfNums (n4 2)).toList)) = true) := str_inj8 (a := ((sig.drop 4).take 4292).take 4) (b := n4 2) (fun x hx => hsr x (List.mem_of_mem_drop (List.mem_of_mem_take (List.mem_of_mem_take hx)))) (by decide) hty
  clear hty
  have h1 : 1 ≤ h := by omega
  have h5 : h ≤ 5 := by omega
  rw [hh] at hget
  rw [g3] at hget4
  have n1 : ¬ ((h : Int) < 1) := by omega
  have n2 : ¬ ((h : Int) > 5) := by omega
  clear hh g1 g2 g3 hc0
  subst h56
  obtain ⟨b8, o8, rfl, hc8⟩ := hsb (by omega)
  have hg96 := fun wx (hb : Bytes wx (some ⟨b8, o8, none⟩) sig) => six_get_any (sig.drop 4296) (some ⟨b8, o8 + 4296, none⟩) (sl - 4296) (sc - 4296) wx (by rw [List.length_drop]; omega) (by rw [List.length_drop]; omega) (Bytes.drop hb 4296) (fun x hx => hsr x (List.mem_of_mem_drop hx))
  simp only [get_at] at hg96
  have hneb : ((sl : Int) != 4300 + 32 * (h : Int)) = false := by simp; omega
  have l96 : (4296 : Int) ≤ (sl : Int) := by omega
  have l97 : (sl : Int) ≤ (sc : Int) := by omega
  have l98 : ¬ sc = 4296 := by omega
  have hg0 := fun wx (hb : Bytes wx (some ⟨b8, o8, none⟩) sig) => six_get_any sig (some ⟨b8, o8, none⟩) sl sc wx (by omega) hsl hb hsr
  clear hc8 hne
  rw [hx] at hg96
  rw [hqq] at hg0
  clear hx hqq
  obtain ⟨n, hnd⟩ : ∃ n, n = 2 ^ h := ⟨_, rfl⟩
  have hpw : wrap64 ((2 : Int) ^ h) = (n : Int) := by
    subst hnd
    rcases (by omega : h = 1 ∨ h = 2 ∨ h = 3 ∨ h = 4 ∨ h = 5) with rfl | rfl | rfl | rfl | rfl <;> decide +kernel
  rw [← hnd] at hq
  have hgt : decide ((q : Int) ≥ (n : Int)) = false := decide_eq_false (by omega)
  have hnd' : Hid (n = 2 ^ h) := hnd
  clear hnd
  go_enter Tryd.func28, Tryd.ntmps28
  go_upto_region 4 with (first | (go_at_call 55; (with_reducible refine Calls.mono (hget _ hPb) ?_); rintro e w2 ⟨rfl, hb2⟩))
  have hPb2 := hPb.below hb2
  go_upto_region 6 with (first | (go_at_call 55; (with_reducible refine Calls.mono (hget4 _ hPb2) ?_); rintro e w3 ⟨rfl, hb3⟩))
  have hb3' := hb2.trans (hb3.mono hb2.size)
  clear hb2 hb3 hPb2 hget hget4
  have hsb3 := hsb.below hb3'
  go_upto_region 8 with (first | (go_at_call 55; (with_reducible refine Calls.mono (hg96 _ hsb3) ?_); rintro e w4 ⟨rfl, hb4⟩; have hsb4 := hsb3.below hb4) | (go_at_call 55; (with_reducible refine Calls.mono (hg0 _ hsb4) ?_); rintro e w5 ⟨rfl, hb5⟩))
  have hb5' := (hb3'.trans (hb4.mono hb3'.size)).trans (hb5.mono (Nat.le_trans hb3'.size hb4.size))
  clear hb4 hb5 hb3' hsb3 hsb4 hg96
  go_upto_region 9 with fail
  obtain ⟨g8, hg8⟩ : ∃ g8, g8 = w5.heap.size := ⟨_, rfl⟩
  have hg8b : w0.heap.size ≤ g8 := by have := hb5'.size; omega
  have r8 : Row (w5.alloc (.cells (v8 (List.replicate 16 0)) 22)) w5.heap.size 22 (v8 (namN P 0)) := Row.new _ _ _
  have b8' : Below w0.heap.size w0 (w5.alloc (.cells (v8 (List.replicate 16 0)) 22)) := hb5'.alloc hb5'.size _
  change Code.wp _ _ _ _ (w5.alloc (.cells (v8 (List.replicate 16 0)) 22))
  rw [← hg8] at r8 ⊢
  generalize w5.alloc (.cells (v8 (List.replicate 16 0)) 22) = w6 at r8 b8' ⊢
  clear hg8 hb5'
  go_upto_region 10 with fail
  go_loopw [9] (fun i wr => ∃ k : Nat, k ≤ 16 ∧ i = .int .i64 (k : Int) ∧ Row wr g8 22 (v8 (namN P k)) ∧ Below w0.heap.size w0 wr) (fun i _ => 16 - (intOf i).toNat)
  case atStart => exact ⟨0, by omega, rfl, r8, b8'⟩
  case round =>
    clear r8 b8' w6
    obtain ⟨k, hk, rfl, r8, b8'⟩ := hrel
    by_cases hlt : k < 16
    · have c1 : wr.cell? ⟨b, o + (8 + k), none⟩ = some (.int .u8 (gi P (8 + k))) := by
        obtain ⟨bx, ox, hbo, hc⟩ := (hPb.below b8') (by omega)
        injection hbo with hbo
        injection hbo with e1 e2
        subst e1 e2
        exact hc (8 + k) (by omega)
      obtain ⟨v0, hv0⟩ : ∃ v, wr.cell? ⟨g8, k, none⟩ = some v := ⟨_, r8.cell8 (by rw [namN_len]; omega)⟩
      have f0 : wr.frozen? ⟨g8, k, none⟩ = false := r8.frozen
      have n0 : (0 : Int) ≤ (k : Int) := by omega
      have m0 : (k : Int) < 16 := by omega
      have q0 : IntKind.i64.wrap (8 + (k : Int)) = 8 + (k : Int) := by rw [IntKind.wrap_i64]; omega
      have n1 : (0 : Int) ≤ 8 + (k : Int) := by omega
      have m1 : 8 + (k : Int) < 56 := by omega
      have t1 : (8 + (k : Int)).toNat = 8 + k := by omega
      go_wp2
      go_roundw
      case rel => exact ⟨k + 1, by omega, by go_num, r8.set8 k _, b8'.setCell hg8b _⟩
      case measure => simp [intOf]; omega
    · obtain rfl : k = 16 := by omega
      rw [namN_all P hPl] at r8
      have hNl : ((P.drop 8).take 16).length = 16 := by simp; omega
      have hbk : ∀ wx, Below w0.heap.size w0 wx → Calls Tryd.prog 20 #[.agg (v8 ((P.drop 8).take 16)), .int .i64 (q : Int), .slice mp ml mc, .slice (some ⟨b8, o8 + 4, none⟩) 4292 (sc - 4)] wx fun e w' => e = .returned (.tuple #[.agg (v8 (zer 32)), .int .i64 12]) ∧ Below wx.heap.size wx w' := fun wx hb =>
        rBack_type _ ((sig.drop 4).take 4292) q mp b8 (o8 + 4) ml mc (sc - 4) wx hsl4 hcp4 ((Bytes.drop (hsb.below hb) 4).take 4292) hty'
      have hXl : (zer 32).length = 32 := zer_len 32
      generalize (P.drop 8).take 16 = NM at *
      go_upto_region 14 with (go_at_call 55; (with_reducible refine Calls.mono (hg0 _ (hsb.below b8')) ?_); rintro e w8 ⟨rfl, hb8⟩)
      have z8 := r8.below hb8 r8.lt
      have zb := b8'.trans (hb8.mono b8'.size)
      clear r8 b8' hb8 hg0
      have hz8 := z8.lt
      have hzb := zb.size
      obtain ⟨B, hB⟩ : ∃ B, B = w8.heap.size := ⟨_, rfl⟩
      have hsB : ∀ {w : World}, Below B w8 w → B ≤ w.heap.size := fun h => by have := h.size; omega
      refine region_invFA  (by kernel_rfl) (by kernel_rfl) (fun a0 listed a w => ∃ s11 s12 s68 s69 s70 s71 s72 s73 s74 s75 s76, a = (Act.put (Act.put (Act.put (Act.put (Act.put (Act.put (Act.put (Act.put (Act.put (Act.put (Act.put a0 (some 11) s11) (some 12) s12) (some 68) s68) (some 69) s69) (some 70) s70) (some 71) s71) (some 72) s72) (some 73) s73) (some 74) s74) (some 75) s75) (some 76) s76) ∧ Below B w8 w ∧ (listed.getD 0 false = true → s69 = .agg (v8 NM)) ∧ (listed.getD 1 false = true → s70 = .int .i64 (q : Int)) ∧ (listed.getD 2 false = true → s71 = .slice mp ml mc) ∧ (listed.getD 3 false = true → s72 = .slice (some ⟨b8, o8, none⟩) sl sc) ∧ (listed.getD 4 false = true → s73 = .slice (some ⟨b8, o8 + 4, none⟩) 4292 (sc - 4)) ∧ (listed.getD 5 false = true → s74 = .tuple #[.agg (v8 (zer 32)), .int .i64 12]) ∧ (listed.getD 6 false = true → s68 = .tuple #[.agg (v8 (zer 32)), .int .i64 12]) ∧ (listed.getD 7 false = true → s75 = .agg (v8 (zer 32))) ∧ (listed.getD 8 false = true → s76 = .int .i64 12) ∧ (listed.getD 9 false = true → listed.getD 10 false = false → VarS w B s11 24 (zer 32)) ∧ (listed.getD 10 false = true → VarS w B s11 24 (zer 32)) ∧ (listed.getD 11 false = true → s12 = .int .i64 12)) ?_ ?_ ?_
      all_goals simp only [Act.put, List.setIfInBounds_toArray, List.set_cons_succ, List.set_cons_zero]
      · exact ⟨_, _, _, _, _, _, _, _, _, _, _, rfl, (Below.refl B _).drew, (fun h => absurd h (by rw [getD_replicate_false]; decide)), (fun h => absurd h (by rw [getD_replicate_false]; decide)), (fun h => absurd h (by rw [getD_replicate_false]; decide)), (fun h => absurd h (by rw [getD_replicate_false]; decide)), (fun h => absurd h (by rw [getD_replicate_false]; decide)), (fun h => absurd h (by rw [getD_replicate_false]; decide)), (fun h => absurd h (by rw [getD_replicate_false]; decide)), (fun h => absurd h (by rw [getD_replicate_false]; decide)), (fun h => absurd h (by rw [getD_replicate_false]; decide)), (fun h => absurd h (by rw [getD_replicate_false]; decide)), (fun h => absurd h (by rw [getD_replicate_false]; decide)), (fun h => absurd h (by rw [getD_replicate_false]; decide))⟩
      · intro listed a w i o hls hJ hin ho hi hall hcl
        obtain ⟨s11, s12, s68, s69, s70, s71, s72, s73, s74, s75, s76, rfl, hbW, c0, c1, c2, c3, c4, c5, c6, c7, c8, c9, c10, c11⟩ := hJ
        replace hin : i < 12 := hin
        rcases (by omega : i = 0 ∨ i = 1 ∨ i = 2 ∨ i = 3 ∨ i = 4 ∨ i = 5 ∨ i = 6 ∨ i = 7 ∨ i = 8 ∨ i = 9 ∨ i = 10 ∨ i = 11) with rfl | rfl | rfl | rfl | rfl | rfl | rfl | rfl | rfl | rfl | rfl | rfl
        · obtain rfl := Option.some.inj ho
          have hsz : 0 < listed.size := by rw [hls]; decide
          have hbw := hbW
          refine inv_val (w' := w) (.agg (v8 NM)) rfl rfl (exec_load_row 22 (.tmp 8) rfl g8 rfl 22 _ _ (z8.below hbW (by omega)) Tryd.underlying22 rfl (name_info hNl)) ?_
          exact ⟨s11, s12, s68, (.agg (v8 NM)), s70, s71, s72, s73, s74, s75, s76, rfl, hbw, (fun _ => rfl), (fun h => c1 (bit_ne h (by decide))), (fun h => c2 (bit_ne h (by decide))), (fun h => c3 (bit_ne h (by decide))), (fun h => c4 (bit_ne h (by decide))), (fun h => c5 (bit_ne h (by decide))), (fun h => c6 (bit_ne h (by decide))), (fun h => c7 (bit_ne h (by decide))), (fun h => c8 (bit_ne h (by decide))), (fun h h2 => c9 (bit_ne h (by decide)) (bit_ne h2 (by decide))), (fun h => c10 (bit_ne h (by decide))), (fun h => c11 (bit_ne h (by decide)))⟩
        · obtain rfl := Option.some.inj ho
          have hsz : 1 < listed.size := by rw [hls]; decide
          have hbw := hbW
          refine inv_val (w' := w) (.int .i64 (q : Int)) rfl rfl rfl ?_
          exact ⟨s11, s12, s68, s69, (.int .i64 (q : Int)), s71, s72, s73, s74, s75, s76, rfl, hbw, (fun h => c0 (bit_ne h (by decide))), (fun _ => rfl), (fun h => c2 (bit_ne h (by decide))), (fun h => c3 (bit_ne h (by decide))), (fun h => c4 (bit_ne h (by decide))), (fun h => c5 (bit_ne h (by decide))), (fun h => c6 (bit_ne h (by decide))), (fun h => c7 (bit_ne h (by decide))), (fun h => c8 (bit_ne h (by decide))), (fun h h2 => c9 (bit_ne h (by decide)) (bit_ne h2 (by decide))), (fun h => c10 (bit_ne h (by decide))), (fun h => c11 (bit_ne h (by decide)))⟩
        · obtain rfl := Option.some.inj ho
          have hsz : 2 < listed.size := by rw [hls]; decide
          have hbw := hbW
          refine inv_val (w' := w) (.slice mp ml mc) rfl rfl rfl ?_
          exact ⟨s11, s12, s68, s69, s70, (.slice mp ml mc), s72, s73, s74, s75, s76, rfl, hbw, (fun h => c0 (bit_ne h (by decide))), (fun h => c1 (bit_ne h (by decide))), (fun _ => rfl), (fun h => c3 (bit_ne h (by decide))), (fun h => c4 (bit_ne h (by decide))), (fun h => c5 (bit_ne h (by decide))), (fun h => c6 (bit_ne h (by decide))), (fun h => c7 (bit_ne h (by decide))), (fun h => c8 (bit_ne h (by decide))), (fun h h2 => c9 (bit_ne h (by decide)) (bit_ne h2 (by decide))), (fun h => c10 (bit_ne h (by decide))), (fun h => c11 (bit_ne h (by decide)))⟩
        · obtain rfl := Option.some.inj ho
          have hsz : 3 < listed.size := by rw [hls]; decide
          have hbw := hbW
          refine inv_val (w' := w) (.slice (some ⟨b8, o8, none⟩) sl sc) rfl rfl rfl ?_
          exact ⟨s11, s12, s68, s69, s70, s71, (.slice (some ⟨b8, o8, none⟩) sl sc), s73, s74, s75, s76, rfl, hbw, (fun h => c0 (bit_ne h (by decide))), (fun h => c1 (bit_ne h (by decide))), (fun h => c2 (bit_ne h (by decide))), (fun _ => rfl), (fun h => c4 (bit_ne h (by decide))), (fun h => c5 (bit_ne h (by decide))), (fun h => c6 (bit_ne h (by decide))), (fun h => c7 (bit_ne h (by decide))), (fun h => c8 (bit_ne h (by decide))), (fun h h2 => c9 (bit_ne h (by decide)) (bit_ne h2 (by decide))), (fun h => c10 (bit_ne h (by decide))), (fun h => c11 (bit_ne h (by decide)))⟩
        · obtain rfl := Option.some.inj ho
          have hsz : 4 < listed.size := by rw [hls]; decide
          have hdep3 : listed.getD 3 false = true := hall ⟨3, .data⟩ (by simp) (by rfl)
          obtain rfl := c3 hdep3
          have hbw := hbW
          refine inv_val (w' := w) (.slice (some ⟨b8, o8 + 4, none⟩) 4292 (sc - 4)) rfl rfl (by go_simp) ?_
          exact ⟨s11, s12, s68, s69, s70, s71, (.slice (some ⟨b8, o8, none⟩) sl sc), (.slice (some ⟨b8, o8 + 4, none⟩) 4292 (sc - 4)), s74, s75, s76, rfl, hbw, (fun h => c0 (bit_ne h (by decide))), (fun h => c1 (bit_ne h (by decide))), (fun h => c2 (bit_ne h (by decide))), (fun h => c3 (bit_ne h (by decide))), (fun _ => rfl), (fun h => c5 (bit_ne h (by decide))), (fun h => c6 (bit_ne h (by decide))), (fun h => c7 (bit_ne h (by decide))), (fun h => c8 (bit_ne h (by decide))), (fun h h2 => c9 (bit_ne h (by decide)) (bit_ne h2 (by decide))), (fun h => c10 (bit_ne h (by decide))), (fun h => c11 (bit_ne h (by decide)))⟩
        · obtain rfl := Option.some.inj ho
          have hsz : 5 < listed.size := by rw [hls]; decide
          have hdep0 : listed.getD 0 false = true := hall ⟨0, .data⟩ (by simp) (by rfl)
          obtain rfl := c0 hdep0
          have hdep1 : listed.getD 1 false = true := hall ⟨1, .data⟩ (by simp) (by rfl)
          obtain rfl := c1 hdep1
          have hdep2 : listed.getD 2 false = true := hall ⟨2, .data⟩ (by simp) (by rfl)
          obtain rfl := c2 hdep2
          have hdep4 : listed.getD 4 false = true := hall ⟨4, .data⟩ (by simp) (by rfl)
          obtain rfl := c4 hdep4
          refine inv_call 20 #[.agg (v8 NM), .int .i64 (q : Int), .slice mp ml mc, .slice (some ⟨b8, o8 + 4, none⟩) 4292 (sc - 4)] _ rfl rfl (by kernel_rfl) (hbk w (zb.trans (hbW.mono (by omega)))) ?_
          rintro e w' ⟨rfl, hb⟩
          have hbw : Below B w8 w' := hbW.trans (hb.mono (hsB hbW))
          refine ⟨_, rfl, ?_⟩
          exact ⟨s11, s12, s68, (.agg (v8 NM)), (.int .i64 (q : Int)), (.slice mp ml mc), s72, (.slice (some ⟨b8, o8 + 4, none⟩) 4292 (sc - 4)), (.tuple #[.agg (v8 (zer 32)), .int .i64 12]), s75, s76, rfl, hbw, (fun h => c0 (bit_ne h (by decide))), (fun h => c1 (bit_ne h (by decide))), (fun h => c2 (bit_ne h (by decide))), (fun h => c3 (bit_ne h (by decide))), (fun h => c4 (bit_ne h (by decide))), (fun _ => rfl), (fun h => c6 (bit_ne h (by decide))), (fun h => c7 (bit_ne h (by decide))), (fun h => c8 (bit_ne h (by decide))), (fun h h2 => (c9 (bit_ne h (by decide)) (bit_ne h2 (by decide))).below hb), (fun h => (c10 (bit_ne h (by decide))).below hb), (fun h => c11 (bit_ne h (by decide)))⟩
        · obtain rfl := Option.some.inj ho
          have hsz : 6 < listed.size := by rw [hls]; decide
          have hdep5 : listed.getD 5 false = true := hall ⟨5, .data⟩ (by simp) (by rfl)
          obtain rfl := c5 hdep5
          have hbw := hbW
          refine inv_val (w' := w) (.tuple #[.agg (v8 (zer 32)), .int .i64 12]) rfl rfl rfl ?_
          exact ⟨s11, s12, (.tuple #[.agg (v8 (zer 32)), .int .i64 12]), s69, s70, s71, s72, s73, (.tuple #[.agg (v8 (zer 32)), .int .i64 12]), s75, s76, rfl, hbw, (fun h => c0 (bit_ne h (by decide))), (fun h => c1 (bit_ne h (by decide))), (fun h => c2 (bit_ne h (by decide))), (fun h => c3 (bit_ne h (by decide))), (fun h => c4 (bit_ne h (by decide))), (fun h => c5 (bit_ne h (by decide))), (fun _ => rfl), (fun h => c7 (bit_ne h (by decide))), (fun h => c8 (bit_ne h (by decide))), (fun h h2 => c9 (bit_ne h (by decide)) (bit_ne h2 (by decide))), (fun h => c10 (bit_ne h (by decide))), (fun h => c11 (bit_ne h (by decide)))⟩
        · obtain rfl := Option.some.inj ho
          have hsz : 7 < listed.size := by rw [hls]; decide
          have hdep6 : listed.getD 6 false = true := hall ⟨6, .data⟩ (by simp) (by rfl)
          obtain rfl := c6 hdep6
          have hbw := hbW
          refine inv_val (w' := w) (.agg (v8 (zer 32))) rfl rfl (by kernel_rfl) ?_
          exact ⟨s11, s12, (.tuple #[.agg (v8 (zer 32)), .int .i64 12]), s69, s70, s71, s72, s73, s74, (.agg (v8 (zer 32))), s76, rfl, hbw, (fun h => c0 (bit_ne h (by decide))), (fun h => c1 (bit_ne h (by decide))), (fun h => c2 (bit_ne h (by decide))), (fun h => c3 (bit_ne h (by decide))), (fun h => c4 (bit_ne h (by decide))), (fun h => c5 (bit_ne h (by decide))), (fun h => c6 (bit_ne h (by decide))), (fun _ => rfl), (fun h => c8 (bit_ne h (by decide))), (fun h h2 => c9 (bit_ne h (by decide)) (bit_ne h2 (by decide))), (fun h => c10 (bit_ne h (by decide))), (fun h => c11 (bit_ne h (by decide)))⟩
        · obtain rfl := Option.some.inj ho
          have hsz : 8 < listed.size := by rw [hls]; decide
          have hdep6 : listed.getD 6 false = true := hall ⟨6, .data⟩ (by simp) (by rfl)
          obtain rfl := c6 hdep6
          have hbw := hbW
          refine inv_val (w' := w) (.int .i64 12) rfl rfl (by kernel_rfl) ?_
          exact ⟨s11, s12, (.tuple #[.agg (v8 (zer 32)), .int .i64 12]), s69, s70, s71, s72, s73, s74, s75, (.int .i64 12), rfl, hbw, (fun h => c0 (bit_ne h (by decide))), (fun h => c1 (bit_ne h (by decide))), (fun h => c2 (bit_ne h (by decide))), (fun h => c3 (bit_ne h (by decide))), (fun h => c4 (bit_ne h (by decide))), (fun h => c5 (bit_ne h (by decide))), (fun h => c6 (bit_ne h (by decide))), (fun h => c7 (bit_ne h (by decide))), (fun _ => rfl), (fun h h2 => c9 (bit_ne h (by decide)) (bit_ne h2 (by decide))), (fun h => c10 (bit_ne h (by decide))), (fun h => c11 (bit_ne h (by decide)))⟩
        · obtain rfl := Option.some.inj ho
          have hsz : 9 < listed.size := by rw [hls]; decide
          have hbw : Below B w8 (w.alloc (.cells (v8 (zer 32)) 24)) := hbW.alloc (hsB hbW) _
          refine inv_val (.pointer (some ⟨w.heap.size, 0, none⟩)) (w' := w.alloc (.cells (v8 (zer 32)) 24)) rfl rfl (by kernel_rfl) ?_
          exact ⟨(.pointer (some ⟨w.heap.size, 0, none⟩)), s12, s68, s69, s70, s71, s72, s73, s74, s75, s76, rfl, hbw, (fun h => c0 (bit_ne h (by decide))), (fun h => c1 (bit_ne h (by decide))), (fun h => c2 (bit_ne h (by decide))), (fun h => c3 (bit_ne h (by decide))), (fun h => c4 (bit_ne h (by decide))), (fun h => c5 (bit_ne h (by decide))), (fun h => c6 (bit_ne h (by decide))), (fun h => c7 (bit_ne h (by decide))), (fun h => c8 (bit_ne h (by decide))), (fun _ _ => VarS.new w B (hsB hbW) _ _), (fun h => absurd (hcl 10 _ rfl (bit_ne h (by decide)) ⟨9, .data⟩ (by simp) rfl) (by rw [hi]; decide)), (fun h => c11 (bit_ne h (by decide)))⟩
        · obtain rfl := Option.some.inj ho
          have hsz : 10 < listed.size := by rw [hls]; decide
          have hdep9 : listed.getD 9 false = true := hall ⟨9, .data⟩ (by simp) (by rfl)
          have hdep7 : listed.getD 7 false = true := hall ⟨7, .data⟩ (by simp) (by rfl)
          obtain rfl := c7 hdep7
          obtain ⟨bV, rfl, rV, hbV⟩ := c9 hdep9 hi
          refine inv_store 24 (.tmp 11) (.tmp 75) rfl rfl rfl rfl bV (zer 32) rfl rfl 24 (zer 32) rV (id_info hXl) ((zer_len 32).trans hXl.symm) ?_
          have hbw : Below B w8 (w.setRow bV (v8 (zer 32))) := below_setRow hbW hbV _
          exact ⟨(.pointer (some ⟨bV, 0, none⟩)), s12, s68, s69, s70, s71, s72, s73, s74, (.agg (v8 (zer 32))), s76, rfl, hbw, (fun h => c0 (bit_ne h (by decide))), (fun h => c1 (bit_ne h (by decide))), (fun h => c2 (bit_ne h (by decide))), (fun h => c3 (bit_ne h (by decide))), (fun h => c4 (bit_ne h (by decide))), (fun h => c5 (bit_ne h (by decide))), (fun h => c6 (bit_ne h (by decide))), (fun h => c7 (bit_ne h (by decide))), (fun h => c8 (bit_ne h (by decide))), (fun _ h2 => absurd (bit_on hsz) (by rw [h2]; decide)), (fun _ => ⟨bV, rfl, rV.setRow _, hbV⟩), (fun h => c11 (bit_ne h (by decide)))⟩
        · obtain rfl := Option.some.inj ho
          have hsz : 11 < listed.size := by rw [hls]; decide
          have hdep8 : listed.getD 8 false = true := hall ⟨8, .data⟩ (by simp) (by rfl)
          obtain rfl := c8 hdep8
          have hbw := hbW
          refine inv_val (w' := w) (.int .i64 12) rfl rfl rfl ?_
          exact ⟨s11, (.int .i64 12), s68, s69, s70, s71, s72, s73, s74, s75, (.int .i64 12), rfl, hbw, (fun h => c0 (bit_ne h (by decide))), (fun h => c1 (bit_ne h (by decide))), (fun h => c2 (bit_ne h (by decide))), (fun h => c3 (bit_ne h (by decide))), (fun h => c4 (bit_ne h (by decide))), (fun h => c5 (bit_ne h (by decide))), (fun h => c6 (bit_ne h (by decide))), (fun h => c7 (bit_ne h (by decide))), (fun h => c8 (bit_ne h (by decide))), (fun h h2 => c9 (bit_ne h (by decide)) (bit_ne h2 (by decide))), (fun h => c10 (bit_ne h (by decide))), (fun _ => rfl)⟩
      · intro listed a w hall hJ
        obtain ⟨s11, s12, s68, s69, s70, s71, s72, s73, s74, s75, s76, rfl, hbW, c0, c1, c2, c3, c4, c5, c6, c7, c8, c9, c10, c11⟩ := hJ
        obtain rfl := c0 (hall 0 (by decide))
        obtain rfl := c1 (hall 1 (by decide))
        obtain rfl := c2 (hall 2 (by decide))
        obtain rfl := c3 (hall 3 (by decide))
        obtain rfl := c4 (hall 4 (by decide))
        obtain rfl := c5 (hall 5 (by decide))
        obtain rfl := c6 (hall 6 (by decide))
        obtain rfl := c7 (hall 7 (by decide))
        obtain rfl := c8 (hall 8 (by decide))
        obtain ⟨b10, rfl, r10, hb10⟩ := c10 (hall 10 (by decide))
        obtain rfl := c11 (hall 11 (by decide))
        have u8 := z8.below hbW (by omega)
        have ub := zb.trans (hbW.mono (by omega))
        clear z8 zb hall hB hsB c0 c1 c2 c3 c4 c5 c6 c7 c8 c11 hbk
        go_wp2
        go_ret
        exact ⟨rfl, ub⟩
end Go.Proofs.YtoebnkepeledmaaDoor
