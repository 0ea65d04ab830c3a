/- The reference's Check of lms: a signature that leads back: the way up, and what it comes to. No old memory turns. -/
import Derived.Test.YtoebnkepeledmaaDoorSixFx
import Derived.Test.YtoebnkepeledmaaDoorLmsNx
import Derived.Test.YtoebnkepeledmaaDoorGj
import Derived.Test.YtoebnkepeledmaaDoorLmsVx
import Derived.Test.YtoebnkepeledmaaDoorGm
namespace Go.Proofs.YtoebnkepeledmaaDoor
open Go Go.RowKit

theorem run_str28 (w : World) (b o n cap : Nat) (cs : List Int) (h0 : 0 < n) (hn : cs.length = n) (hb : Bytes w (some ⟨b, o, none⟩) cs) : (convert 28 9 (.slice (some ⟨b, o, none⟩) n cap)).run Tryd.prog w = .ok (.string (strOfNums cs)) w := by
  subst hn
  obtain ⟨b', o', e, hc⟩ := hb h0
  cases e
  exact run_convert_bytes_arg w 28 5 Tryd.underlying28 Tryd.underlying5 b o _ cap cs rfl hc 9 Tryd.underlying9
set_option maxRecDepth 20000 in
set_option maxHeartbeats 4000000 in
theorem sixCheck_top (P : List Int) (pp mp sp : Option Addr) (pl pc ml mc sl sc : Nat) (w0 : World) (hPl : P.length = pl) (hpc : pl ≤ pc) (hPb : Bytes w0 pp P) (hPr : ∀ x ∈ P, 0 ≤ x ∧ x < 256) (sig : List Int) (hsl : sig.length = sl) (hsc : sl ≤ sc) (hsb : Bytes w0 sp sig) (hsr : ∀ x ∈ sig, 0 ≤ x ∧ x < 256) (ht : Nat) (hk : keyOk P) (hh : num4 P 0 = (ht : Int)) (S : List Int → List Int) (hS : Hash S) (msg : List Int) (hml : msg.length = ml) (hmm : ml ≤ 1000000) (hmn : mp = none → mc = 0 ∧ ml = 0) (hmb : Bytes w0 mp msg) (hne : sl = 4300 + 32 * ht) (hx : num4 sig 4296 = (ht : Int)) (q : Nat) (hqq : num4 sig 0 = (q : Int)) (hq : q < 2 ^ ht) (hty : ((sig.drop 4).take 4292).take 4 = n4 2) :
    Calls Tryd.prog 28 #[.slice pp pl pc, .slice mp ml mc, .slice sp sl sc] w0 fun e w' => e = .returned (.int .i64 (if climbL S ((P.drop 8).take 16) (2 ^ ht + q) (backL S ((P.drop 8).take 16 ++ n4 (q : Int)) msg ((sig.drop 4).take 4292)) (sig.drop 4300) ht = cutL P 24 then 0 else 12)) ∧ Below w0.heap.size w0 w' := by
  obtain ⟨OUT, hOUT⟩ : ∃ OUT : Int, (if climbL S ((P.drop 8).take 16) (2 ^ ht + q) (backL S ((P.drop 8).take 16 ++ n4 (q : Int)) msg ((sig.drop 4).take 4292)) (sig.drop 4300) ht = cutL P 24 then 0 else 12) = OUT := ⟨_, rfl⟩
  rw [hOUT]
  have hOUT' : Hid ((if climbL S ((P.drop 8).take 16) (2 ^ ht + q) (backL S ((P.drop 8).take 16 ++ n4 (q : Int)) msg ((sig.drop 4).take 4292)) (sig.drop 4300) ht = cutL P 24 then (0 : Int) else 12) = OUT) := hOUT
  have hq0 : Hid (q < 2 ^ ht) := hq
  have hslh : Hid (sl = 4300 + 32 * ht) := hne
  have hty' : Hid (((sig.drop 4).take 4292).take 4 = n4 2) := hty
  have hMM : Hid (Hash S ∧ msg.length = ml ∧ ml ≤ 1000000 ∧ (mp = none → mc = 0 ∧ ml = 0) ∧ Bytes w0 mp msg) := ⟨hS, hml, hmm, hmn, hmb⟩
  clear hOUT hty hS hml hmm hmn hmb
  obtain ⟨hP56, g1, g2, g3⟩ := hk
  have h56 : pl = 56 := by omega
  have hget := fun wx hb => six_get_any P pp pl pc wx (by omega) hPl hb hPr
  obtain ⟨b, o, rfl, hc0⟩ := hPb (by omega)
  have hget4 := fun wx (hb : Bytes wx (some ⟨b, o, none⟩) P) => six_get_any (P.drop 4) (some ⟨b, o + 4, none⟩) (pl - 4) (pc - 4) wx (by rw [List.length_drop]; omega) (by rw [List.length_drop]; omega) (Bytes.drop hb 4) (fun x hx => hPr x (List.mem_of_mem_drop hx))
  simp only [get_at] at hget4
  have hsl4 : Hid (((sig.drop 4).take 4292).length = 4292) := by show ((sig.drop 4).take 4292).length = 4292; simp; omega
  have hcp4 : Hid (4292 ≤ sc - 4) := by show 4292 ≤ sc - 4; omega
  have hsc4 : ¬ sc = 4 := by omega
  have hsc96 : (4296 : Int) ≤ (sc : Int) := by omega
  have h1 : 1 ≤ ht := by omega
  have h5 : ht ≤ 5 := by omega
  rw [hh] at hget
  rw [g3] at hget4
  have n1 : ¬ ((ht : Int) < 1) := by omega
  have n2 : ¬ ((ht : Int) > 5) := by omega
  clear hh g1 g2 g3 hc0
  subst h56
  obtain ⟨b8, o8, rfl, hc8⟩ := hsb (by omega)
  have hg96 := fun wx (hb : Bytes wx (some ⟨b8, o8, none⟩) sig) => six_get_any (sig.drop 4296) (some ⟨b8, o8 + 4296, none⟩) (sl - 4296) (sc - 4296) wx (by rw [List.length_drop]; omega) (by rw [List.length_drop]; omega) (Bytes.drop hb 4296) (fun x hx => hsr x (List.mem_of_mem_drop hx))
  simp only [get_at] at hg96
  have hneb : ((sl : Int) != 4300 + 32 * (ht : Int)) = false := by simp; omega
  have l96 : (4296 : Int) ≤ (sl : Int) := by omega
  have l97 : (sl : Int) ≤ (sc : Int) := by omega
  have l98 : ¬ sc = 4296 := by omega
  have hg0 := fun wx (hb : Bytes wx (some ⟨b8, o8, none⟩) sig) => six_get_any sig (some ⟨b8, o8, none⟩) sl sc wx (by omega) hsl hb hsr
  clear hc8 hne
  rw [hx] at hg96
  rw [hqq] at hg0
  clear hx hqq
  obtain ⟨n, hnd⟩ : ∃ n, n = 2 ^ ht := ⟨_, rfl⟩
  have hpw : wrap64 ((2 : Int) ^ ht) = (n : Int) := by
    subst hnd
    rcases (by omega : ht = 1 ∨ ht = 2 ∨ ht = 3 ∨ ht = 4 ∨ ht = 5) with rfl | rfl | rfl | rfl | rfl <;> decide +kernel
  rw [← hnd] at hq
  have hgt : decide ((q : Int) ≥ (n : Int)) = false := decide_eq_false (by omega)
  have hnd' : Hid (n = 2 ^ ht) := hnd
  clear hnd
  go_enter Tryd.func28, Tryd.ntmps28
  go_upto_region 4 with (first | (go_at_call 55; (with_reducible refine Calls.mono (hget _ hPb) ?_); rintro e w2 ⟨rfl, hb2⟩))
  have hPb2 := hPb.below hb2
  go_upto_region 6 with (first | (go_at_call 55; (with_reducible refine Calls.mono (hget4 _ hPb2) ?_); rintro e w3 ⟨rfl, hb3⟩))
  have hb3' := hb2.trans (hb3.mono hb2.size)
  clear hb2 hb3 hPb2 hget hget4
  have hsb3 := hsb.below hb3'
  go_upto_region 8 with (first | (go_at_call 55; (with_reducible refine Calls.mono (hg96 _ hsb3) ?_); rintro e w4 ⟨rfl, hb4⟩; have hsb4 := hsb3.below hb4) | (go_at_call 55; (with_reducible refine Calls.mono (hg0 _ hsb4) ?_); rintro e w5 ⟨rfl, hb5⟩))
  have hb5' := (hb3'.trans (hb4.mono hb3'.size)).trans (hb5.mono (Nat.le_trans hb3'.size hb4.size))
  clear hb4 hb5 hb3' hsb3 hsb4 hg96
  go_upto_region 9 with fail
  obtain ⟨g8, hg8⟩ : ∃ g8, g8 = w5.heap.size := ⟨_, rfl⟩
  have hg8b : w0.heap.size ≤ g8 := by have := hb5'.size; omega
  have r8 : Row (w5.alloc (.cells (v8 (List.replicate 16 0)) 22)) w5.heap.size 22 (v8 (namN P 0)) := Row.new _ _ _
  have b8' : Below w0.heap.size w0 (w5.alloc (.cells (v8 (List.replicate 16 0)) 22)) := hb5'.alloc hb5'.size _
  change Code.wp _ _ _ _ (w5.alloc (.cells (v8 (List.replicate 16 0)) 22))
  rw [← hg8] at r8 ⊢
  generalize w5.alloc (.cells (v8 (List.replicate 16 0)) 22) = w6 at r8 b8' ⊢
  clear hg8 hb5'
  go_upto_region 10 with fail
  go_loopw [9] (fun i wr => ∃ k : Nat, k ≤ 16 ∧ i = .int .i64 (k : Int) ∧ Row wr g8 22 (v8 (namN P k)) ∧ Below w0.heap.size w0 wr) (fun i _ => 16 - (intOf i).toNat)
  case atStart => exact ⟨0, by omega, rfl, r8, b8'⟩
  case round =>
    clear r8 b8' w6
    obtain ⟨k, hk, rfl, r8, b8'⟩ := hrel
    by_cases hlt : k < 16
    · have c1 : wr.cell? ⟨b, o + (8 + k), none⟩ = some (.int .u8 (gi P (8 + k))) := by
        obtain ⟨bx, ox, hbo, hc⟩ := (hPb.below b8') (by omega)
        injection hbo with hbo
        injection hbo with e1 e2
        subst e1 e2
        exact hc (8 + k) (by omega)
      obtain ⟨v0, hv0⟩ : ∃ v, wr.cell? ⟨g8, k, none⟩ = some v := ⟨_, r8.cell8 (by rw [namN_len]; omega)⟩
      have f0 : wr.frozen? ⟨g8, k, none⟩ = false := r8.frozen
      have n0 : (0 : Int) ≤ (k : Int) := by omega
      have m0 : (k : Int) < 16 := by omega
      have q0 : IntKind.i64.wrap (8 + (k : Int)) = 8 + (k : Int) := by rw [IntKind.wrap_i64]; omega
      have n1 : (0 : Int) ≤ 8 + (k : Int) := by omega
      have m1 : 8 + (k : Int) < 56 := by omega
      have t1 : (8 + (k : Int)).toNat = 8 + k := by omega
      go_wp2
      go_roundw
      case rel => exact ⟨k + 1, by omega, by go_num, r8.set8 k _, b8'.setCell hg8b _⟩
      case measure => simp [intOf]; omega
    · obtain rfl : k = 16 := by omega
      rw [namN_all P hPl] at r8
      have hNl : ((P.drop 8).take 16).length = 16 := by simp; omega
      obtain ⟨hS, hml, hmm, hmn, hmb⟩ := hMM
      have hbk : ∀ wx, Below w0.heap.size w0 wx → Calls Tryd.prog 20 #[.agg (v8 ((P.drop 8).take 16)), .int .i64 (q : Int), .slice mp ml mc, .slice (some ⟨b8, o8 + 4, none⟩) 4292 (sc - 4)] wx fun e w' => e = .returned (.tuple #[.agg (v8 (backL S ((P.drop 8).take 16 ++ n4 (q : Int)) msg ((sig.drop 4).take 4292))), .int .i64 0]) ∧ Below wx.heap.size wx w' := fun wx hb =>
        rBack_ok S hS msg _ ((sig.drop 4).take 4292) q mp b8 (o8 + 4) ml mc (sc - 4) wx hNl hml hmn hmm (hmb.below hb) hsl4 hcp4 ((Bytes.drop (hsb.below hb) 4).take 4292) hty'
      have hXl : (backL S ((P.drop 8).take 16 ++ n4 (q : Int)) msg ((sig.drop 4).take 4292)).length = 32 := hS.len _
      obtain ⟨R, hR⟩ : ∃ R : Nat, R = (2 : Nat) ^ ht + q := ⟨_, rfl⟩
      unfold Hid at hOUT' hq0
      rw [← hR] at hOUT'
      have hRI : (n : Int) + (q : Int) = (R : Int) := by have hnd2 : n = 2 ^ ht := hnd'; rw [hR, hnd2]; omega
      have hRlo : 2 ^ ht ≤ R := by omega
      have hRhi : R < 2 * 2 ^ ht := by omega
      have hR64 : R < 64 := by
        have : 2 ^ ht ≤ 32 := by rcases (by omega : ht = 1 ∨ ht = 2 ∨ ht = 3 ∨ ht = 4 ∨ ht = 5) with rfl | rfl | rfl | rfl | rfl <;> decide
        omega
      have hdone : Hid (R / 2 ^ ht = 1) := Nat.div_eq_of_lt_le (by omega) (by omega)
      have hmore : ∀ i, i < ht → 1 < R / 2 ^ i := fun i hi => by
        have h2 : 2 ^ (i + 1) ≤ 2 ^ ht := Nat.pow_le_pow_right (by decide) hi
        have h3 : 2 * 2 ^ i ≤ R := by rw [← Nat.pow_succ']; omega
        have h4 := (Nat.le_div_iff_mul_le (Nat.two_pow_pos i)).2 h3
        omega
      clear hR hRlo hRhi hq0
      generalize backL S ((P.drop 8).take 16 ++ n4 (q : Int)) msg ((sig.drop 4).take 4292) = X at *
      generalize (P.drop 8).take 16 = NM at *
      have hTl : ∀ i, (climbL S NM R X (sig.drop 4300) i).length = 32 := climbL_len (fun l => hS.len l) NM R X (sig.drop 4300)
      have hst : ∀ i, climbL S NM R X (sig.drop 4300) (i + 1) = upL S NM (R / 2 ^ i) (climbL S NM R X (sig.drop 4300) i) (cutL (sig.drop 4300) (32 * i)) := fun i => rfl
      have hnd0 : ∀ wx pb, Row wx pb 24 (v8 X) → Calls Tryd.prog 56 #[.agg (v8 NM), .int .i64 (R : Int), .int .u8 130, .slice (some ⟨pb, 0, none⟩) 32 32] wx fun e w' => e = .returned (.agg (v8 (climbL S NM R X (sig.drop 4300) 0))) ∧ Below wx.heap.size wx w' := fun wx pb hr => six_node_any S hS NM X R 130 (some ⟨pb, 0, none⟩) 32 32 wx hNl hXl (by omega) (fun ht => by cases ht) hr.bytes
      have hab : ∀ (r : Nat) (bs : List Int) sp2 cap2 wx, bs.length = 64 → (sp2 = none → cap2 = 0 ∧ 64 = 0) → Bytes wx sp2 bs → Calls Tryd.prog 56 #[.agg (v8 NM), .int .i64 (r : Int), .int .u8 131, .slice sp2 64 cap2] wx fun e w' => e = .returned (.agg (v8 (S (NM ++ n4 (r : Int) ++ [131, 131] ++ bs)))) ∧ Below wx.heap.size wx w' := fun r bs sp2 cap2 wx hl hn hb => six_node_any S hS NM bs r 131 sp2 64 cap2 wx hNl hl (by omega) hn hb
      have hXb : ∀ wx i, i < ht → Bytes wx (some ⟨b8, o8, none⟩) sig → Bytes wx (some ⟨b8, o8 + (4300 + 32 * i), none⟩) (cutL (sig.drop 4300) (32 * i)) := fun wx i hi hb => by
        unfold cutL; rw [List.drop_drop]; exact (Bytes.drop hb (4300 + 32 * i)).take 32
      have hXL : ∀ i, i < ht → (cutL (sig.drop 4300) (32 * i)).length = 32 := fun i hi => by
        have h9 : sl = 4300 + 32 * ht := hslh
        unfold cutL; simp; omega
      have hTo : ∀ i x, x ∈ climbL S NM R X (sig.drop 4300) i → 0 ≤ x ∧ x < 256 := fun i x hx => by
        cases i with
        | zero => exact hS.oct _ x hx
        | succ i =>
          rw [climbL, upL] at hx
          split at hx <;> exact hS.oct _ x hx
      generalize climbL S NM R X (sig.drop 4300) = T at *
      generalize hXX : (fun i => cutL (sig.drop 4300) (32 * i)) = XS at *
      have hX' : ∀ i, cutL (sig.drop 4300) (32 * i) = XS i := fun i => congrFun hXX i
      simp only [hX'] at hst hXb hXL
      clear hXX hX'
      have hOUT2 : Hid ((if T ht = cutL P 24 then (0 : Int) else 12) = OUT) := hOUT'
      clear hOUT'
      go_upto_region 14 with (go_at_call 55; (with_reducible refine Calls.mono (hg0 _ (hsb.below b8')) ?_); rintro e w8 ⟨rfl, hb8⟩)
      have z8 := r8.below hb8 r8.lt
      have zb := b8'.trans (hb8.mono b8'.size)
      clear r8 b8' hb8 hg0
      have hz8 := z8.lt
      have hzb := zb.size
      obtain ⟨B, hB⟩ : ∃ B, B = w8.heap.size := ⟨_, rfl⟩
      have hsB : ∀ {w : World}, Below B w8 w → B ≤ w.heap.size := fun ht => by have := ht.size; omega
      refine region_invFA  (by kernel_rfl) (by kernel_rfl) (fun a0 listed a w => ∃ s11 s12 s68 s69 s70 s71 s72 s73 s74 s75 s76, a = (Act.put (Act.put (Act.put (Act.put (Act.put (Act.put (Act.put (Act.put (Act.put (Act.put (Act.put a0 (some 11) s11) (some 12) s12) (some 68) s68) (some 69) s69) (some 70) s70) (some 71) s71) (some 72) s72) (some 73) s73) (some 74) s74) (some 75) s75) (some 76) s76) ∧ Below B w8 w ∧ (listed.getD 0 false = true → s69 = .agg (v8 NM)) ∧ (listed.getD 1 false = true → s70 = .int .i64 (q : Int)) ∧ (listed.getD 2 false = true → s71 = .slice mp ml mc) ∧ (listed.getD 3 false = true → s72 = .slice (some ⟨b8, o8, none⟩) sl sc) ∧ (listed.getD 4 false = true → s73 = .slice (some ⟨b8, o8 + 4, none⟩) 4292 (sc - 4)) ∧ (listed.getD 5 false = true → s74 = .tuple #[.agg (v8 X), .int .i64 0]) ∧ (listed.getD 6 false = true → s68 = .tuple #[.agg (v8 X), .int .i64 0]) ∧ (listed.getD 7 false = true → s75 = .agg (v8 X)) ∧ (listed.getD 8 false = true → s76 = .int .i64 0) ∧ (listed.getD 9 false = true → listed.getD 10 false = false → VarS w B s11 24 (zer 32)) ∧ (listed.getD 10 false = true → VarS w B s11 24 X) ∧ (listed.getD 11 false = true → s12 = .int .i64 0)) ?_ ?_ ?_
      all_goals simp only [Act.put, List.setIfInBounds_toArray, List.set_cons_succ, List.set_cons_zero]
      · exact ⟨_, _, _, _, _, _, _, _, _, _, _, rfl, (Below.refl B _).drew, (fun h => absurd h (by rw [getD_replicate_false]; decide)), (fun h => absurd h (by rw [getD_replicate_false]; decide)), (fun h => absurd h (by rw [getD_replicate_false]; decide)), (fun h => absurd h (by rw [getD_replicate_false]; decide)), (fun h => absurd h (by rw [getD_replicate_false]; decide)), (fun h => absurd h (by rw [getD_replicate_false]; decide)), (fun h => absurd h (by rw [getD_replicate_false]; decide)), (fun h => absurd h (by rw [getD_replicate_false]; decide)), (fun h => absurd h (by rw [getD_replicate_false]; decide)), (fun h => absurd h (by rw [getD_replicate_false]; decide)), (fun h => absurd h (by rw [getD_replicate_false]; decide)), (fun h => absurd h (by rw [getD_replicate_false]; decide))⟩
      · intro listed a w i o hls hJ hin ho hi hall hcl
        obtain ⟨s11, s12, s68, s69, s70, s71, s72, s73, s74, s75, s76, rfl, hbW, c0, c1, c2, c3, c4, c5, c6, c7, c8, c9, c10, c11⟩ := hJ
        replace hin : i < 12 := hin
        rcases (by omega : i = 0 ∨ i = 1 ∨ i = 2 ∨ i = 3 ∨ i = 4 ∨ i = 5 ∨ i = 6 ∨ i = 7 ∨ i = 8 ∨ i = 9 ∨ i = 10 ∨ i = 11) with rfl | rfl | rfl | rfl | rfl | rfl | rfl | rfl | rfl | rfl | rfl | rfl
        · obtain rfl := Option.some.inj ho
          have hsz : 0 < listed.size := by rw [hls]; decide
          have hbw := hbW
          refine inv_val (w' := w) (.agg (v8 NM)) rfl rfl (exec_load_row 22 (.tmp 8) rfl g8 rfl 22 _ _ (z8.below hbW (by omega)) Tryd.underlying22 rfl (name_info hNl)) ?_
          exact ⟨s11, s12, s68, (.agg (v8 NM)), s70, s71, s72, s73, s74, s75, s76, rfl, hbw, (fun _ => rfl), (fun h => c1 (bit_ne h (by decide))), (fun h => c2 (bit_ne h (by decide))), (fun h => c3 (bit_ne h (by decide))), (fun h => c4 (bit_ne h (by decide))), (fun h => c5 (bit_ne h (by decide))), (fun h => c6 (bit_ne h (by decide))), (fun h => c7 (bit_ne h (by decide))), (fun h => c8 (bit_ne h (by decide))), (fun h h2 => c9 (bit_ne h (by decide)) (bit_ne h2 (by decide))), (fun h => c10 (bit_ne h (by decide))), (fun h => c11 (bit_ne h (by decide)))⟩
        · obtain rfl := Option.some.inj ho
          have hsz : 1 < listed.size := by rw [hls]; decide
          have hbw := hbW
          refine inv_val (w' := w) (.int .i64 (q : Int)) rfl rfl rfl ?_
          exact ⟨s11, s12, s68, s69, (.int .i64 (q : Int)), s71, s72, s73, s74, s75, s76, rfl, hbw, (fun h => c0 (bit_ne h (by decide))), (fun _ => rfl), (fun h => c2 (bit_ne h (by decide))), (fun h => c3 (bit_ne h (by decide))), (fun h => c4 (bit_ne h (by decide))), (fun h => c5 (bit_ne h (by decide))), (fun h => c6 (bit_ne h (by decide))), (fun h => c7 (bit_ne h (by decide))), (fun h => c8 (bit_ne h (by decide))), (fun h h2 => c9 (bit_ne h (by decide)) (bit_ne h2 (by decide))), (fun h => c10 (bit_ne h (by decide))), (fun h => c11 (bit_ne h (by decide)))⟩
        · obtain rfl := Option.some.inj ho
          have hsz : 2 < listed.size := by rw [hls]; decide
          have hbw := hbW
          refine inv_val (w' := w) (.slice mp ml mc) rfl rfl rfl ?_
          exact ⟨s11, s12, s68, s69, s70, (.slice mp ml mc), s72, s73, s74, s75, s76, rfl, hbw, (fun h => c0 (bit_ne h (by decide))), (fun h => c1 (bit_ne h (by decide))), (fun _ => rfl), (fun h => c3 (bit_ne h (by decide))), (fun h => c4 (bit_ne h (by decide))), (fun h => c5 (bit_ne h (by decide))), (fun h => c6 (bit_ne h (by decide))), (fun h => c7 (bit_ne h (by decide))), (fun h => c8 (bit_ne h (by decide))), (fun h h2 => c9 (bit_ne h (by decide)) (bit_ne h2 (by decide))), (fun h => c10 (bit_ne h (by decide))), (fun h => c11 (bit_ne h (by decide)))⟩
        · obtain rfl := Option.some.inj ho
          have hsz : 3 < listed.size := by rw [hls]; decide
          have hbw := hbW
          refine inv_val (w' := w) (.slice (some ⟨b8, o8, none⟩) sl sc) rfl rfl rfl ?_
          exact ⟨s11, s12, s68, s69, s70, s71, (.slice (some ⟨b8, o8, none⟩) sl sc), s73, s74, s75, s76, rfl, hbw, (fun h => c0 (bit_ne h (by decide))), (fun h => c1 (bit_ne h (by decide))), (fun h => c2 (bit_ne h (by decide))), (fun _ => rfl), (fun h => c4 (bit_ne h (by decide))), (fun h => c5 (bit_ne h (by decide))), (fun h => c6 (bit_ne h (by decide))), (fun h => c7 (bit_ne h (by decide))), (fun h => c8 (bit_ne h (by decide))), (fun h h2 => c9 (bit_ne h (by decide)) (bit_ne h2 (by decide))), (fun h => c10 (bit_ne h (by decide))), (fun h => c11 (bit_ne h (by decide)))⟩
        · obtain rfl := Option.some.inj ho
          have hsz : 4 < listed.size := by rw [hls]; decide
          have hdep3 : listed.getD 3 false = true := hall ⟨3, .data⟩ (by simp) (by rfl)
          obtain rfl := c3 hdep3
          have hbw := hbW
          refine inv_val (w' := w) (.slice (some ⟨b8, o8 + 4, none⟩) 4292 (sc - 4)) rfl rfl (by go_simp) ?_
          exact ⟨s11, s12, s68, s69, s70, s71, (.slice (some ⟨b8, o8, none⟩) sl sc), (.slice (some ⟨b8, o8 + 4, none⟩) 4292 (sc - 4)), s74, s75, s76, rfl, hbw, (fun h => c0 (bit_ne h (by decide))), (fun h => c1 (bit_ne h (by decide))), (fun h => c2 (bit_ne h (by decide))), (fun h => c3 (bit_ne h (by decide))), (fun _ => rfl), (fun h => c5 (bit_ne h (by decide))), (fun h => c6 (bit_ne h (by decide))), (fun h => c7 (bit_ne h (by decide))), (fun h => c8 (bit_ne h (by decide))), (fun h h2 => c9 (bit_ne h (by decide)) (bit_ne h2 (by decide))), (fun h => c10 (bit_ne h (by decide))), (fun h => c11 (bit_ne h (by decide)))⟩
        · obtain rfl := Option.some.inj ho
          have hsz : 5 < listed.size := by rw [hls]; decide
          have hdep0 : listed.getD 0 false = true := hall ⟨0, .data⟩ (by simp) (by rfl)
          obtain rfl := c0 hdep0
          have hdep1 : listed.getD 1 false = true := hall ⟨1, .data⟩ (by simp) (by rfl)
          obtain rfl := c1 hdep1
          have hdep2 : listed.getD 2 false = true := hall ⟨2, .data⟩ (by simp) (by rfl)
          obtain rfl := c2 hdep2
          have hdep4 : listed.getD 4 false = true := hall ⟨4, .data⟩ (by simp) (by rfl)
          obtain rfl := c4 hdep4
          refine inv_call 20 #[.agg (v8 NM), .int .i64 (q : Int), .slice mp ml mc, .slice (some ⟨b8, o8 + 4, none⟩) 4292 (sc - 4)] _ rfl rfl (by kernel_rfl) (hbk w (zb.trans (hbW.mono (by omega)))) ?_
          rintro e w' ⟨rfl, hb⟩
          have hbw : Below B w8 w' := hbW.trans (hb.mono (hsB hbW))
          refine ⟨_, rfl, ?_⟩
          exact ⟨s11, s12, s68, (.agg (v8 NM)), (.int .i64 (q : Int)), (.slice mp ml mc), s72, (.slice (some ⟨b8, o8 + 4, none⟩) 4292 (sc - 4)), (.tuple #[.agg (v8 X), .int .i64 0]), s75, s76, rfl, hbw, (fun h => c0 (bit_ne h (by decide))), (fun h => c1 (bit_ne h (by decide))), (fun h => c2 (bit_ne h (by decide))), (fun h => c3 (bit_ne h (by decide))), (fun h => c4 (bit_ne h (by decide))), (fun _ => rfl), (fun h => c6 (bit_ne h (by decide))), (fun h => c7 (bit_ne h (by decide))), (fun h => c8 (bit_ne h (by decide))), (fun h h2 => (c9 (bit_ne h (by decide)) (bit_ne h2 (by decide))).below hb), (fun h => (c10 (bit_ne h (by decide))).below hb), (fun h => c11 (bit_ne h (by decide)))⟩
        · obtain rfl := Option.some.inj ho
          have hsz : 6 < listed.size := by rw [hls]; decide
          have hdep5 : listed.getD 5 false = true := hall ⟨5, .data⟩ (by simp) (by rfl)
          obtain rfl := c5 hdep5
          have hbw := hbW
          refine inv_val (w' := w) (.tuple #[.agg (v8 X), .int .i64 0]) rfl rfl rfl ?_
          exact ⟨s11, s12, (.tuple #[.agg (v8 X), .int .i64 0]), s69, s70, s71, s72, s73, (.tuple #[.agg (v8 X), .int .i64 0]), s75, s76, rfl, hbw, (fun h => c0 (bit_ne h (by decide))), (fun h => c1 (bit_ne h (by decide))), (fun h => c2 (bit_ne h (by decide))), (fun h => c3 (bit_ne h (by decide))), (fun h => c4 (bit_ne h (by decide))), (fun h => c5 (bit_ne h (by decide))), (fun _ => rfl), (fun h => c7 (bit_ne h (by decide))), (fun h => c8 (bit_ne h (by decide))), (fun h h2 => c9 (bit_ne h (by decide)) (bit_ne h2 (by decide))), (fun h => c10 (bit_ne h (by decide))), (fun h => c11 (bit_ne h (by decide)))⟩
        · obtain rfl := Option.some.inj ho
          have hsz : 7 < listed.size := by rw [hls]; decide
          have hdep6 : listed.getD 6 false = true := hall ⟨6, .data⟩ (by simp) (by rfl)
          obtain rfl := c6 hdep6
          have hbw := hbW
          refine inv_val (w' := w) (.agg (v8 X)) rfl rfl (by kernel_rfl) ?_
          exact ⟨s11, s12, (.tuple #[.agg (v8 X), .int .i64 0]), s69, s70, s71, s72, s73, s74, (.agg (v8 X)), s76, rfl, hbw, (fun h => c0 (bit_ne h (by decide))), (fun h => c1 (bit_ne h (by decide))), (fun h => c2 (bit_ne h (by decide))), (fun h => c3 (bit_ne h (by decide))), (fun h => c4 (bit_ne h (by decide))), (fun h => c5 (bit_ne h (by decide))), (fun h => c6 (bit_ne h (by decide))), (fun _ => rfl), (fun h => c8 (bit_ne h (by decide))), (fun h h2 => c9 (bit_ne h (by decide)) (bit_ne h2 (by decide))), (fun h => c10 (bit_ne h (by decide))), (fun h => c11 (bit_ne h (by decide)))⟩
        · obtain rfl := Option.some.inj ho
          have hsz : 8 < listed.size := by rw [hls]; decide
          have hdep6 : listed.getD 6 false = true := hall ⟨6, .data⟩ (by simp) (by rfl)
          obtain rfl := c6 hdep6
          have hbw := hbW
          refine inv_val (w' := w) (.int .i64 0) rfl rfl (by kernel_rfl) ?_
          exact ⟨s11, s12, (.tuple #[.agg (v8 X), .int .i64 0]), s69, s70, s71, s72, s73, s74, s75, (.int .i64 0), rfl, hbw, (fun h => c0 (bit_ne h (by decide))), (fun h => c1 (bit_ne h (by decide))), (fun h => c2 (bit_ne h (by decide))), (fun h => c3 (bit_ne h (by decide))), (fun h => c4 (bit_ne h (by decide))), (fun h => c5 (bit_ne h (by decide))), (fun h => c6 (bit_ne h (by decide))), (fun h => c7 (bit_ne h (by decide))), (fun _ => rfl), (fun h h2 => c9 (bit_ne h (by decide)) (bit_ne h2 (by decide))), (fun h => c10 (bit_ne h (by decide))), (fun h => c11 (bit_ne h (by decide)))⟩
        · obtain rfl := Option.some.inj ho
          have hsz : 9 < listed.size := by rw [hls]; decide
          have hbw : Below B w8 (w.alloc (.cells (v8 (zer 32)) 24)) := hbW.alloc (hsB hbW) _
          refine inv_val (.pointer (some ⟨w.heap.size, 0, none⟩)) (w' := w.alloc (.cells (v8 (zer 32)) 24)) rfl rfl (by kernel_rfl) ?_
          exact ⟨(.pointer (some ⟨w.heap.size, 0, none⟩)), s12, s68, s69, s70, s71, s72, s73, s74, s75, s76, rfl, hbw, (fun h => c0 (bit_ne h (by decide))), (fun h => c1 (bit_ne h (by decide))), (fun h => c2 (bit_ne h (by decide))), (fun h => c3 (bit_ne h (by decide))), (fun h => c4 (bit_ne h (by decide))), (fun h => c5 (bit_ne h (by decide))), (fun h => c6 (bit_ne h (by decide))), (fun h => c7 (bit_ne h (by decide))), (fun h => c8 (bit_ne h (by decide))), (fun _ _ => VarS.new w B (hsB hbW) _ _), (fun h => absurd (hcl 10 _ rfl (bit_ne h (by decide)) ⟨9, .data⟩ (by simp) rfl) (by rw [hi]; decide)), (fun h => c11 (bit_ne h (by decide)))⟩
        · obtain rfl := Option.some.inj ho
          have hsz : 10 < listed.size := by rw [hls]; decide
          have hdep9 : listed.getD 9 false = true := hall ⟨9, .data⟩ (by simp) (by rfl)
          have hdep7 : listed.getD 7 false = true := hall ⟨7, .data⟩ (by simp) (by rfl)
          obtain rfl := c7 hdep7
          obtain ⟨bV, rfl, rV, hbV⟩ := c9 hdep9 hi
          refine inv_store 24 (.tmp 11) (.tmp 75) rfl rfl rfl rfl bV X rfl rfl 24 (zer 32) rV (id_info hXl) ((zer_len 32).trans hXl.symm) ?_
          have hbw : Below B w8 (w.setRow bV (v8 X)) := below_setRow hbW hbV _
          exact ⟨(.pointer (some ⟨bV, 0, none⟩)), s12, s68, s69, s70, s71, s72, s73, s74, (.agg (v8 X)), s76, rfl, hbw, (fun h => c0 (bit_ne h (by decide))), (fun h => c1 (bit_ne h (by decide))), (fun h => c2 (bit_ne h (by decide))), (fun h => c3 (bit_ne h (by decide))), (fun h => c4 (bit_ne h (by decide))), (fun h => c5 (bit_ne h (by decide))), (fun h => c6 (bit_ne h (by decide))), (fun h => c7 (bit_ne h (by decide))), (fun h => c8 (bit_ne h (by decide))), (fun _ h2 => absurd (bit_on hsz) (by rw [h2]; decide)), (fun _ => ⟨bV, rfl, rV.setRow _, hbV⟩), (fun h => c11 (bit_ne h (by decide)))⟩
        · obtain rfl := Option.some.inj ho
          have hsz : 11 < listed.size := by rw [hls]; decide
          have hdep8 : listed.getD 8 false = true := hall ⟨8, .data⟩ (by simp) (by rfl)
          obtain rfl := c8 hdep8
          have hbw := hbW
          refine inv_val (w' := w) (.int .i64 0) rfl rfl rfl ?_
          exact ⟨s11, (.int .i64 0), s68, s69, s70, s71, s72, s73, s74, s75, (.int .i64 0), rfl, hbw, (fun h => c0 (bit_ne h (by decide))), (fun h => c1 (bit_ne h (by decide))), (fun h => c2 (bit_ne h (by decide))), (fun h => c3 (bit_ne h (by decide))), (fun h => c4 (bit_ne h (by decide))), (fun h => c5 (bit_ne h (by decide))), (fun h => c6 (bit_ne h (by decide))), (fun h => c7 (bit_ne h (by decide))), (fun h => c8 (bit_ne h (by decide))), (fun h h2 => c9 (bit_ne h (by decide)) (bit_ne h2 (by decide))), (fun h => c10 (bit_ne h (by decide))), (fun _ => rfl)⟩
      · intro listed a w hall hJ
        obtain ⟨s11, s12, s68, s69, s70, s71, s72, s73, s74, s75, s76, rfl, hbW, c0, c1, c2, c3, c4, c5, c6, c7, c8, c9, c10, c11⟩ := hJ
        obtain rfl := c0 (hall 0 (by decide))
        obtain rfl := c1 (hall 1 (by decide))
        obtain rfl := c2 (hall 2 (by decide))
        obtain rfl := c3 (hall 3 (by decide))
        obtain rfl := c4 (hall 4 (by decide))
        obtain rfl := c5 (hall 5 (by decide))
        obtain rfl := c6 (hall 6 (by decide))
        obtain rfl := c7 (hall 7 (by decide))
        obtain rfl := c8 (hall 8 (by decide))
        obtain ⟨b10, rfl, r10, hb10⟩ := c10 (hall 10 (by decide))
        obtain rfl := c11 (hall 11 (by decide))
        have u8 := z8.below hbW (by omega)
        have ub := zb.trans (hbW.mono (by omega))
        have hg8B : g8 < B := by omega
        have hs9 := hsB hbW
        clear z8 zb hall hsB c0 c1 c2 c3 c4 c5 c6 c7 c8 c9 c10 c11 hbk hbW listed hz8
        generalize w = w9 at *
        go_upto_region 18 with fail
        have hg89 : g8 < w9.heap.size := by omega
        have hu9 : w0.heap.size ≤ w9.heap.size := ub.size
        have hb9 := r10.lt
        clear hB
        obtain ⟨B, hB⟩ : ∃ B, B = w9.heap.size := ⟨_, rfl⟩
        have hsB : ∀ {w : World}, Below B w9 w → B ≤ w.heap.size := fun ht => by have := ht.size; omega
        have hT0l := hTl 0
        refine region_invFA  (by kernel_rfl) (by kernel_rfl) (fun a0 listed a w => ∃ s14 s85 s86 s87 s88, a = (Act.put (Act.put (Act.put (Act.put (Act.put a0 (some 14) s14) (some 85) s85) (some 86) s86) (some 87) s87) (some 88) s88) ∧ Below B w9 w ∧ (listed.getD 0 false = true → s85 = .agg (v8 NM)) ∧ (listed.getD 1 false = true → s86 = .int .i64 (R : Int)) ∧ (listed.getD 2 false = true → s87 = .slice (some ⟨b10, 0, none⟩) 32 32) ∧ (listed.getD 3 false = true → s88 = .agg (v8 (T 0))) ∧ (listed.getD 4 false = true → listed.getD 5 false = false → VarS w B s14 24 (zer 32)) ∧ (listed.getD 5 false = true → VarS w B s14 24 (T 0))) ?_ ?_ ?_
        all_goals simp only [Act.put, List.setIfInBounds_toArray, List.set_cons_succ, List.set_cons_zero]
        · exact ⟨_, _, _, _, _, rfl, (Below.refl B _).drew, (fun h => absurd h (by rw [getD_replicate_false]; decide)), (fun h => absurd h (by rw [getD_replicate_false]; decide)), (fun h => absurd h (by rw [getD_replicate_false]; decide)), (fun h => absurd h (by rw [getD_replicate_false]; decide)), (fun h => absurd h (by rw [getD_replicate_false]; decide)), (fun h => absurd h (by rw [getD_replicate_false]; decide))⟩
        · intro listed a w i o hls hJ hin ho hi hall hcl
          obtain ⟨s14, s85, s86, s87, s88, rfl, hbW, c0, c1, c2, c3, c4, c5⟩ := hJ
          replace hin : i < 6 := hin
          rcases (by omega : i = 0 ∨ i = 1 ∨ i = 2 ∨ i = 3 ∨ i = 4 ∨ i = 5) with rfl | rfl | rfl | rfl | rfl | rfl
          · obtain rfl := Option.some.inj ho
            have hsz : 0 < listed.size := by rw [hls]; decide
            have hbw := hbW
            refine inv_val (w' := w) (.agg (v8 NM)) rfl rfl (exec_load_row 22 (.tmp 8) rfl g8 rfl 22 _ _ (u8.below hbW (by omega)) Tryd.underlying22 rfl (name_info hNl)) ?_
            exact ⟨s14, (.agg (v8 NM)), s86, s87, s88, rfl, hbw, (fun _ => rfl), (fun h => c1 (bit_ne h (by decide))), (fun h => c2 (bit_ne h (by decide))), (fun h => c3 (bit_ne h (by decide))), (fun h h2 => c4 (bit_ne h (by decide)) (bit_ne h2 (by decide))), (fun h => c5 (bit_ne h (by decide)))⟩
          · obtain rfl := Option.some.inj ho
            have hsz : 1 < listed.size := by rw [hls]; decide
            have hbw := hbW
            refine inv_val (w' := w) (.int .i64 (R : Int)) rfl rfl rfl ?_
            exact ⟨s14, s85, (.int .i64 (R : Int)), s87, s88, rfl, hbw, (fun h => c0 (bit_ne h (by decide))), (fun _ => rfl), (fun h => c2 (bit_ne h (by decide))), (fun h => c3 (bit_ne h (by decide))), (fun h h2 => c4 (bit_ne h (by decide)) (bit_ne h2 (by decide))), (fun h => c5 (bit_ne h (by decide)))⟩
          · obtain rfl := Option.some.inj ho
            have hsz : 2 < listed.size := by rw [hls]; decide
            have hbw := hbW
            refine inv_val (w' := w) (.slice (some ⟨b10, 0, none⟩) 32 32) rfl rfl (by kernel_rfl) ?_
            exact ⟨s14, s85, s86, (.slice (some ⟨b10, 0, none⟩) 32 32), s88, rfl, hbw, (fun h => c0 (bit_ne h (by decide))), (fun h => c1 (bit_ne h (by decide))), (fun _ => rfl), (fun h => c3 (bit_ne h (by decide))), (fun h h2 => c4 (bit_ne h (by decide)) (bit_ne h2 (by decide))), (fun h => c5 (bit_ne h (by decide)))⟩
          · obtain rfl := Option.some.inj ho
            have hsz : 3 < listed.size := by rw [hls]; decide
            have hdep0 : listed.getD 0 false = true := hall ⟨0, .data⟩ (by simp) (by rfl)
            obtain rfl := c0 hdep0
            have hdep1 : listed.getD 1 false = true := hall ⟨1, .data⟩ (by simp) (by rfl)
            obtain rfl := c1 hdep1
            have hdep2 : listed.getD 2 false = true := hall ⟨2, .data⟩ (by simp) (by rfl)
            obtain rfl := c2 hdep2
            refine inv_call 56 #[.agg (v8 NM), .int .i64 (R : Int), .int .u8 130, .slice (some ⟨b10, 0, none⟩) 32 32] _ rfl rfl (by kernel_rfl) (hnd0 w b10 (r10.below hbW (by omega))) ?_
            rintro e w' ⟨rfl, hb⟩
            have hbw : Below B w9 w' := hbW.trans (hb.mono (hsB hbW))
            refine ⟨_, rfl, ?_⟩
            exact ⟨s14, (.agg (v8 NM)), (.int .i64 (R : Int)), (.slice (some ⟨b10, 0, none⟩) 32 32), (.agg (v8 (T 0))), rfl, hbw, (fun h => c0 (bit_ne h (by decide))), (fun h => c1 (bit_ne h (by decide))), (fun h => c2 (bit_ne h (by decide))), (fun _ => rfl), (fun h h2 => (c4 (bit_ne h (by decide)) (bit_ne h2 (by decide))).below hb), (fun h => (c5 (bit_ne h (by decide))).below hb)⟩
          · obtain rfl := Option.some.inj ho
            have hsz : 4 < listed.size := by rw [hls]; decide
            have hbw : Below B w9 (w.alloc (.cells (v8 (zer 32)) 24)) := hbW.alloc (hsB hbW) _
            refine inv_val (.pointer (some ⟨w.heap.size, 0, none⟩)) (w' := w.alloc (.cells (v8 (zer 32)) 24)) rfl rfl (by kernel_rfl) ?_
            exact ⟨(.pointer (some ⟨w.heap.size, 0, none⟩)), s85, s86, s87, s88, rfl, hbw, (fun h => c0 (bit_ne h (by decide))), (fun h => c1 (bit_ne h (by decide))), (fun h => c2 (bit_ne h (by decide))), (fun h => c3 (bit_ne h (by decide))), (fun _ _ => VarS.new w B (hsB hbW) _ _), (fun h => absurd (hcl 5 _ rfl (bit_ne h (by decide)) ⟨4, .data⟩ (by simp) rfl) (by rw [hi]; decide))⟩
          · obtain rfl := Option.some.inj ho
            have hsz : 5 < listed.size := by rw [hls]; decide
            have hdep4 : listed.getD 4 false = true := hall ⟨4, .data⟩ (by simp) (by rfl)
            have hdep3 : listed.getD 3 false = true := hall ⟨3, .data⟩ (by simp) (by rfl)
            obtain rfl := c3 hdep3
            obtain ⟨bV, rfl, rV, hbV⟩ := c4 hdep4 hi
            refine inv_store 24 (.tmp 14) (.tmp 88) rfl rfl rfl rfl bV (T 0) rfl rfl 24 (zer 32) rV (id_info hT0l) ((zer_len 32).trans hT0l.symm) ?_
            have hbw : Below B w9 (w.setRow bV (v8 (T 0))) := below_setRow hbW hbV _
            exact ⟨(.pointer (some ⟨bV, 0, none⟩)), s85, s86, s87, (.agg (v8 (T 0))), rfl, hbw, (fun h => c0 (bit_ne h (by decide))), (fun h => c1 (bit_ne h (by decide))), (fun h => c2 (bit_ne h (by decide))), (fun h => c3 (bit_ne h (by decide))), (fun _ h2 => absurd (bit_on hsz) (by rw [h2]; decide)), (fun _ => ⟨bV, rfl, rV.setRow _, hbV⟩)⟩
        · intro listed a w hall hJ
          obtain ⟨s14, s85, s86, s87, s88, rfl, hbW, c0, c1, c2, c3, c4, c5⟩ := hJ
          obtain rfl := c0 (hall 0 (by decide))
          obtain rfl := c1 (hall 1 (by decide))
          obtain rfl := c2 (hall 2 (by decide))
          obtain rfl := c3 (hall 3 (by decide))
          obtain ⟨b5, rfl, r5, hb5⟩ := c5 (hall 5 (by decide))
          have v8' := u8.below hbW (by omega)
          have vb := ub.trans (hbW.mono (by omega))
          have hg5 : w0.heap.size ≤ b5 := by omega
          have hne5 : g8 ≠ b5 := by omega
          clear u8 ub hall hsB hB c0 c1 c2 c3 c4 c5 hnd0 hbW listed
          generalize w = w10 at *
          go_wp2
          go_loopw [13, 15] (fun v c wr => ∃ i r : Nat, r = R / 2 ^ i ∧ v = .int .i64 (r : Int) ∧ c = .int .i64 (i : Int) ∧ i ≤ ht ∧ Row wr g8 22 (v8 NM) ∧ Row wr b5 24 (v8 (T i)) ∧ Below w0.heap.size w0 wr) (fun _ c _ => ht - (intOf c).toNat)
          case atStart => exact ⟨0, R, by simp, rfl, rfl, by omega, v8', r5, vb⟩
          case round =>
            clear r5 v8' vb
            obtain ⟨i, r, hr, rfl, rfl, hi, z8, zt, zb⟩ := hrel
            by_cases hlt : i < ht
            · have hrl : r < 64 := by rw [hr]; exact Nat.lt_of_le_of_lt (Nat.div_le_self _ _) hR64
              have hnx : R / 2 ^ (i + 1) = r / 2 := by rw [hr, Nat.div_div_eq_div_mul, Nat.pow_succ]
              have hm := hmore i hlt
              have hsti := hst i
              rw [← hr] at hsti hm
              have hXi := hXL i hlt
              have hTi := hTl i
              have hTn := hTl (i + 1)
              have hxw : ∀ wy, Below w0.heap.size w0 wy → Bytes wy (some ⟨b8, o8 + (4300 + 32 * i), none⟩) (XS i) := fun wy hb => hXb wy i hlt (hsb.below hb)
              have hsle : 4300 + 32 * i + 32 ≤ sc := by
                have h9 : sl = 4300 + 32 * ht := hslh
                omega
              generalize XS i = x at *
              have hgt : decide ((r : Int) > 1) = true := by simp; omega
              obtain ⟨lo, hlo⟩ : ∃ lo : Nat, 4300 + 32 * i = lo := ⟨_, rfl⟩
              have hlo' : Hid (4300 + 32 * i = lo) := hlo
              have hl1 : (4300 : Int) + 32 * (i : Int) = (lo : Int) := by omega
              have hl2 : (4332 : Int) + 32 * (i : Int) = (lo : Int) + 32 := by omega
              rw [hlo] at hxw hsle
              have hl3 : (lo : Int) + 32 ≤ (sc : Int) := by omega
              have hl4 : ¬ sc = lo := by omega
              clear hlo hr hmore hst hXb hXL hTl hTo
              obtain ⟨TN, hTN⟩ : ∃ TN, T (i + 1) = TN := ⟨_, rfl⟩
              have hTN' : Hid (T (i + 1) = TN) := hTN
              rw [hTN] at hsti hTn
              clear hTN
              generalize T i = t at *
              obtain ⟨r2, hr2⟩ : ∃ r2, r / 2 = r2 := ⟨_, rfl⟩
              have q1 : (r : Int).tdiv 2 = (r2 : Int) := by rw [Int.tdiv_eq_ediv_of_nonneg (by omega)]; omega
              have q2 : (r : Int) / 2 = (r2 : Int) := by omega
              rw [hr2] at hnx
              have hzb := zb.size
              have hz8 := z8.lt
              have hzt := zt.lt
              by_cases hev : r % 2 = 0
              · have e1 : (r : Int).tmod 2 = 0 := by rw [Int.tmod_eq_emod_of_nonneg (by omega)]; omega
                obtain ⟨B, hB⟩ : ∃ B, B = wr.heap.size := ⟨_, rfl⟩
                have hsB : ∀ {w : World}, Below B wr w → B ≤ w.heap.size := fun ht => by have := ht.size; omega
                have hA1 : ([] ++ t).length = 32 := by simp; omega
                have hA2 : ([] ++ t ++ x).length = 64 := by simp; omega
                have hnode : ∀ wy sp2 cap2, Own8 wy B 5 (.slice sp2 64 cap2) ([] ++ t ++ x) → Calls Tryd.prog 56 #[.agg (v8 NM), .int .i64 (r2 : Int), .int .u8 131, .slice sp2 64 cap2] wy fun e w' => e = .returned (.agg (v8 TN)) ∧ Below wy.heap.size wy w' := fun wy sp2 cap2 ho => by
                  have := hab r2 ([] ++ t ++ x) sp2 cap2 wy hA2 (own_nil0 ho) ho.bytes
                  rw [hsti, upL, if_pos hev, hr2]
                  simpa using this
                have hXi2 : x.length = lo + 32 - lo := by omega
                clear hsti hr2 hev hab
                go_upto_region 24 with fail
                refine region_invF 9 (by kernel_rfl) (by kernel_rfl) (fun a0 listed a w => ∃ s104 s105 s106 s107 s108 s109 s110 s111 s112, a = (Act.put (Act.put (Act.put (Act.put (Act.put (Act.put (Act.put (Act.put (Act.put a0 (some 104) s104) (some 105) s105) (some 106) s106) (some 107) s107) (some 108) s108) (some 109) s109) (some 110) s110) (some 111) s111) (some 112) s112) ∧ Below B wr w ∧ (listed.getD 0 false = true → s104 = .agg (v8 NM)) ∧ (listed.getD 1 false = true → s105 = .int .i64 (r : Int)) ∧ (listed.getD 2 false = true → s106 = .int .i64 (r2 : Int)) ∧ (listed.getD 3 false = true → listed.getD 5 false = false → OwnS w B s107 0 []) ∧ (listed.getD 4 false = true → s108 = .slice (some ⟨b5, 0, none⟩) 32 32) ∧ (listed.getD 5 false = true → listed.getD 7 false = false → OwnS w B s109 32 ([] ++ t)) ∧ (listed.getD 6 false = true → s110 = .slice (some ⟨b8, o8 + lo, none⟩) (lo + 32 - lo) (sc - lo)) ∧ (listed.getD 7 false = true → listed.getD 8 false = false → OwnS w B s111 64 ([] ++ t ++ x)) ∧ (listed.getD 8 false = true → s112 = .agg (v8 TN))) ?_ ?_ ?_
                all_goals simp only [Act.put, List.setIfInBounds_toArray, List.set_cons_succ, List.set_cons_zero]
                · exact ⟨_, _, _, _, _, _, _, _, _, rfl, (Below.refl B _).drew, (fun ht => absurd ht (by rw [getD_replicate_false]; decide)), (fun ht => absurd ht (by rw [getD_replicate_false]; decide)), (fun ht => absurd ht (by rw [getD_replicate_false]; decide)), (fun ht => absurd ht (by rw [getD_replicate_false]; decide)), (fun ht => absurd ht (by rw [getD_replicate_false]; decide)), (fun ht => absurd ht (by rw [getD_replicate_false]; decide)), (fun ht => absurd ht (by rw [getD_replicate_false]; decide)), (fun ht => absurd ht (by rw [getD_replicate_false]; decide)), (fun ht => absurd ht (by rw [getD_replicate_false]; decide))⟩
                · intro listed a w i o hls hJ hin ho hi hall hcl
                  obtain ⟨s104, s105, s106, s107, s108, s109, s110, s111, s112, rfl, hbW, c0, c1, c2, c3, c4, c5, c6, c7, c8⟩ := hJ
                  rcases (by omega : i = 0 ∨ i = 1 ∨ i = 2 ∨ i = 3 ∨ i = 4 ∨ i = 5 ∨ i = 6 ∨ i = 7 ∨ i = 8) with rfl | rfl | rfl | rfl | rfl | rfl | rfl | rfl | rfl
                  · obtain rfl := Option.some.inj ho
                    have hsz : 0 < listed.size := by rw [hls]; decide
                    have hbw := hbW
                    refine inv_val (w' := w) (.agg (v8 NM)) rfl rfl (exec_load_row 22 (.tmp 8) rfl g8 rfl 22 _ _ (z8.below hbW (by omega)) Tryd.underlying22 rfl (name_info hNl)) ?_
                    exact ⟨(.agg (v8 NM)), s105, s106, s107, s108, s109, s110, s111, s112, rfl, hbw, (fun _ => rfl), (fun ht => c1 (bit_ne ht (by decide))), (fun ht => c2 (bit_ne ht (by decide))), (fun ht h2 => c3 (bit_ne ht (by decide)) (bit_ne h2 (by decide))), (fun ht => c4 (bit_ne ht (by decide))), (fun ht h2 => c5 (bit_ne ht (by decide)) (bit_ne h2 (by decide))), (fun ht => c6 (bit_ne ht (by decide))), (fun ht h2 => c7 (bit_ne ht (by decide)) (bit_ne h2 (by decide))), (fun ht => c8 (bit_ne ht (by decide)))⟩
                  · obtain rfl := Option.some.inj ho
                    have hsz : 1 < listed.size := by rw [hls]; decide
                    have hbw := hbW
                    refine inv_val (w' := w) (.int .i64 (r : Int)) rfl rfl rfl ?_
                    exact ⟨s104, (.int .i64 (r : Int)), s106, s107, s108, s109, s110, s111, s112, rfl, hbw, (fun ht => c0 (bit_ne ht (by decide))), (fun _ => rfl), (fun ht => c2 (bit_ne ht (by decide))), (fun ht h2 => c3 (bit_ne ht (by decide)) (bit_ne h2 (by decide))), (fun ht => c4 (bit_ne ht (by decide))), (fun ht h2 => c5 (bit_ne ht (by decide)) (bit_ne h2 (by decide))), (fun ht => c6 (bit_ne ht (by decide))), (fun ht h2 => c7 (bit_ne ht (by decide)) (bit_ne h2 (by decide))), (fun ht => c8 (bit_ne ht (by decide)))⟩
                  · obtain rfl := Option.some.inj ho
                    have hsz : 2 < listed.size := by rw [hls]; decide
                    have hdep1 : listed.getD 1 false = true := hall ⟨1, .data⟩ (by simp) (by rfl)
                    obtain rfl := c1 hdep1
                    have hbw := hbW
                    refine inv_val (w' := w) (.int .i64 (r2 : Int)) rfl rfl (by have h9 : IntKind.i64.wrap (r2 : Int) = (r2 : Int) := (by rw [IntKind.wrap_i64]; omega); go_simp) ?_
                    exact ⟨s104, (.int .i64 (r : Int)), (.int .i64 (r2 : Int)), s107, s108, s109, s110, s111, s112, rfl, hbw, (fun ht => c0 (bit_ne ht (by decide))), (fun ht => c1 (bit_ne ht (by decide))), (fun _ => rfl), (fun ht h2 => c3 (bit_ne ht (by decide)) (bit_ne h2 (by decide))), (fun ht => c4 (bit_ne ht (by decide))), (fun ht h2 => c5 (bit_ne ht (by decide)) (bit_ne h2 (by decide))), (fun ht => c6 (bit_ne ht (by decide))), (fun ht h2 => c7 (bit_ne ht (by decide)) (bit_ne h2 (by decide))), (fun ht => c8 (bit_ne ht (by decide)))⟩
                  · obtain rfl := Option.some.inj ho
                    have hsz : 3 < listed.size := by rw [hls]; decide
                    have hbw : Below B wr (w.alloc (.cells (v8 []) 5)) := hbW.alloc (hsB hbW) _
                    refine inv_val (.slice (some ⟨w.heap.size, 0, none⟩) 0 0) (w' := w.alloc (.cells (v8 []) 5)) rfl rfl (by kernel_rfl) ?_
                    exact ⟨s104, s105, s106, (.slice (some ⟨w.heap.size, 0, none⟩) 0 0), s108, s109, s110, s111, s112, rfl, hbw, (fun ht => c0 (bit_ne ht (by decide))), (fun ht => c1 (bit_ne ht (by decide))), (fun ht => c2 (bit_ne ht (by decide))), (fun _ _ => OwnS.new w B (hsB hbW)), (fun ht => c4 (bit_ne ht (by decide))), (fun ht h2 => (c5 (bit_ne ht (by decide)) (bit_ne h2 (by decide))).alloc _), (fun ht => c6 (bit_ne ht (by decide))), (fun ht h2 => (c7 (bit_ne ht (by decide)) (bit_ne h2 (by decide))).alloc _), (fun ht => c8 (bit_ne ht (by decide)))⟩
                  · obtain rfl := Option.some.inj ho
                    have hsz : 4 < listed.size := by rw [hls]; decide
                    have hbw := hbW
                    refine inv_val (w' := w) (.slice (some ⟨b5, 0, none⟩) 32 32) rfl rfl (by kernel_rfl) ?_
                    exact ⟨s104, s105, s106, s107, (.slice (some ⟨b5, 0, none⟩) 32 32), s109, s110, s111, s112, rfl, hbw, (fun ht => c0 (bit_ne ht (by decide))), (fun ht => c1 (bit_ne ht (by decide))), (fun ht => c2 (bit_ne ht (by decide))), (fun ht h2 => c3 (bit_ne ht (by decide)) (bit_ne h2 (by decide))), (fun _ => rfl), (fun ht h2 => c5 (bit_ne ht (by decide)) (bit_ne h2 (by decide))), (fun ht => c6 (bit_ne ht (by decide))), (fun ht h2 => c7 (bit_ne ht (by decide)) (bit_ne h2 (by decide))), (fun ht => c8 (bit_ne ht (by decide)))⟩
                  · obtain rfl := Option.some.inj ho
                    have hsz : 5 < listed.size := by rw [hls]; decide
                    have hdep3 : listed.getD 3 false = true := hall ⟨3, .data⟩ (by simp) (by rfl)
                    obtain ⟨sp3, cap3, rfl, o3⟩ := c3 hdep3 hi
                    have hdep4 : listed.getD 4 false = true := hall ⟨4, .data⟩ (by simp) (by rfl)
                    obtain rfl := c4 hdep4
                    refine inv_op rfl rfl (wp8g (.tmp 107) (.tmp 108) 28 5 rfl B Tryd.underlying28 info5 _ [] rfl o3 (some ⟨b5, 0, none⟩) 32 32 t rfl hTi (fun ht => by cases ht) (zt.below hbW (by omega)).bytes (by first | omega | simp | (simp; omega)) (hsB hbW) ?_)
                    intro sp cap w' ow hb' hgg
                    have hg := Grew.of hgg
                    have hbw : Below B wr w' := hbW.trans hb'
                    have hown := o3
                    rw [hA1] at ow ⊢
                    exact ⟨s104, s105, s106, (.slice sp3 0 cap3), (.slice (some ⟨b5, 0, none⟩) 32 32), (.slice sp 32 cap), s110, s111, s112, rfl, hbw, (fun ht => c0 (bit_ne ht (by decide))), (fun ht => c1 (bit_ne ht (by decide))), (fun ht => c2 (bit_ne ht (by decide))), (fun _ h2 => absurd (bit_on hsz) (by rw [h2]; decide)), (fun ht => c4 (bit_ne ht (by decide))), (fun _ _ => ⟨sp, cap, rfl, ow⟩), (fun ht => c6 (bit_ne ht (by decide))), (fun ht _ => absurd (hcl 7 _ rfl (bit_ne ht (by decide)) ⟨5, .data⟩ (by simp) rfl) (by rw [hi]; decide)), (fun ht => c8 (bit_ne ht (by decide)))⟩
                  · obtain rfl := Option.some.inj ho
                    have hsz : 6 < listed.size := by rw [hls]; decide
                    have hbw := hbW
                    refine inv_val (w' := w) (.slice (some ⟨b8, o8 + lo, none⟩) (lo + 32 - lo) (sc - lo)) rfl rfl rfl ?_
                    exact ⟨s104, s105, s106, s107, s108, s109, (.slice (some ⟨b8, o8 + lo, none⟩) (lo + 32 - lo) (sc - lo)), s111, s112, rfl, hbw, (fun ht => c0 (bit_ne ht (by decide))), (fun ht => c1 (bit_ne ht (by decide))), (fun ht => c2 (bit_ne ht (by decide))), (fun ht h2 => c3 (bit_ne ht (by decide)) (bit_ne h2 (by decide))), (fun ht => c4 (bit_ne ht (by decide))), (fun ht h2 => c5 (bit_ne ht (by decide)) (bit_ne h2 (by decide))), (fun _ => rfl), (fun ht h2 => c7 (bit_ne ht (by decide)) (bit_ne h2 (by decide))), (fun ht => c8 (bit_ne ht (by decide)))⟩
                  · obtain rfl := Option.some.inj ho
                    have hsz : 7 < listed.size := by rw [hls]; decide
                    have hdep5 : listed.getD 5 false = true := hall ⟨5, .data⟩ (by simp) (by rfl)
                    obtain ⟨sp5, cap5, rfl, o5⟩ := c5 hdep5 hi
                    have hdep6 : listed.getD 6 false = true := hall ⟨6, .data⟩ (by simp) (by rfl)
                    obtain rfl := c6 hdep6
                    refine inv_op rfl rfl (wp8g (.tmp 109) (.tmp 110) 28 5 rfl B Tryd.underlying28 info5 _ ([] ++ t) rfl o5 (some ⟨b8, o8 + lo, none⟩) (lo + 32 - lo) (sc - lo) x rfl hXi2 (fun ht => by cases ht) (hxw w (zb.trans (hbW.mono (by omega)))) (by first | omega | simp | (simp; omega)) (hsB hbW) ?_)
                    intro sp cap w' ow hb' hgg
                    have hg := Grew.of hgg
                    have hbw : Below B wr w' := hbW.trans hb'
                    have hown := o5
                    rw [hA2] at ow ⊢
                    exact ⟨s104, s105, s106, s107, s108, (.slice sp5 32 cap5), (.slice (some ⟨b8, o8 + lo, none⟩) (lo + 32 - lo) (sc - lo)), (.slice sp 64 cap), s112, rfl, hbw, (fun ht => c0 (bit_ne ht (by decide))), (fun ht => c1 (bit_ne ht (by decide))), (fun ht => c2 (bit_ne ht (by decide))), (fun _ h2 => absurd hdep5 (by rw [bit_ne h2 (by decide)]; decide)), (fun ht => c4 (bit_ne ht (by decide))), (fun _ h2 => absurd (bit_on hsz) (by rw [h2]; decide)), (fun ht => c6 (bit_ne ht (by decide))), (fun _ _ => ⟨sp, cap, rfl, ow⟩), (fun ht => c8 (bit_ne ht (by decide)))⟩
                  · obtain rfl := Option.some.inj ho
                    have hsz : 8 < listed.size := by rw [hls]; decide
                    have hdep0 : listed.getD 0 false = true := hall ⟨0, .data⟩ (by simp) (by rfl)
                    obtain rfl := c0 hdep0
                    have hdep2 : listed.getD 2 false = true := hall ⟨2, .data⟩ (by simp) (by rfl)
                    obtain rfl := c2 hdep2
                    have hdep7 : listed.getD 7 false = true := hall ⟨7, .data⟩ (by simp) (by rfl)
                    obtain ⟨sp7, cap7, rfl, o7⟩ := c7 hdep7 hi
                    refine inv_call 56 #[.agg (v8 NM), .int .i64 (r2 : Int), .int .u8 131, .slice sp7 64 cap7] _ rfl rfl (by kernel_rfl) (hnode w sp7 cap7 o7) ?_
                    rintro e w' ⟨rfl, hb⟩
                    have hbw : Below B wr w' := hbW.trans (hb.mono (hsB hbW))
                    refine ⟨_, rfl, ?_⟩
                    exact ⟨(.agg (v8 NM)), s105, (.int .i64 (r2 : Int)), s107, s108, s109, s110, (.slice sp7 64 cap7), (.agg (v8 TN)), rfl, hbw, (fun ht => c0 (bit_ne ht (by decide))), (fun ht => c1 (bit_ne ht (by decide))), (fun ht => c2 (bit_ne ht (by decide))), (fun ht h2 => (c3 (bit_ne ht (by decide)) (bit_ne h2 (by decide))).below hb), (fun ht => c4 (bit_ne ht (by decide))), (fun ht h2 => (c5 (bit_ne ht (by decide)) (bit_ne h2 (by decide))).below hb), (fun ht => c6 (bit_ne ht (by decide))), (fun _ h2 => absurd (bit_on hsz) (by rw [h2]; decide)), (fun _ => rfl)⟩
                · intro listed a w hall hJ
                  obtain ⟨s104, s105, s106, s107, s108, s109, s110, s111, s112, rfl, hbW, c0, c1, c2, c3, c4, c5, c6, c7, c8⟩ := hJ
                  obtain rfl := c0 (hall 0 (by omega))
                  obtain rfl := c1 (hall 1 (by omega))
                  obtain rfl := c2 (hall 2 (by omega))
                  obtain rfl := c4 (hall 4 (by omega))
                  obtain rfl := c6 (hall 6 (by omega))
                  obtain rfl := c8 (hall 8 (by omega))
                  simp only [List.drop_succ_cons, List.drop_zero]
                  have y8 := z8.below hbW (by omega)
                  have yt := zt.below hbW (by omega)
                  have yb := zb.trans (hbW.mono (by omega))
                  clear z8 zt zb hall hsB c0 c1 c2 c3 c4 c5 c6 c7 c8 hbW listed hnode hxw
                  generalize w = w11 at *
                  go_wp2_with (refine store_row0 24 (.tmp 14) (.tmp 112) (by rfl) (by rfl) (by rfl) b5 (v8 TN) (by rfl) (by rfl) 24 (v8 t) yt (id_info hTn) (by rw [v8_size, v8_size, hTi, hTn]) (v8_one _) ?_)
                  go_roundw
                  case rel => exact ⟨i + 1, r2, hnx.symm, rfl, by go_num, by omega, y8.setRowOther hne5 _, by have h9 : T (i + 1) = TN := hTN'; rw [h9]; exact yt.setRow _, below_setRow yb hg5 _⟩
                  case measure => simp [intOf]; omega
              · have e1 : (r : Int).tmod 2 = 1 := by rw [Int.tmod_eq_emod_of_nonneg (by omega)]; omega
                obtain ⟨B, hB⟩ : ∃ B, B = wr.heap.size := ⟨_, rfl⟩
                have hsB : ∀ {w : World}, Below B wr w → B ≤ w.heap.size := fun ht => by have := ht.size; omega
                have hA1 : ([] ++ x).length = 32 := by simp; omega
                have hA2 : ([] ++ x ++ t).length = 64 := by simp; omega
                have hnode : ∀ wy sp2 cap2, Own8 wy B 5 (.slice sp2 64 cap2) ([] ++ x ++ t) → Calls Tryd.prog 56 #[.agg (v8 NM), .int .i64 (r2 : Int), .int .u8 131, .slice sp2 64 cap2] wy fun e w' => e = .returned (.agg (v8 TN)) ∧ Below wy.heap.size wy w' := fun wy sp2 cap2 ho => by
                  have := hab r2 ([] ++ x ++ t) sp2 cap2 wy hA2 (own_nil0 ho) ho.bytes
                  rw [hsti, upL, if_neg hev, hr2]
                  simpa using this
                have hXi2 : x.length = lo + 32 - lo := by omega
                clear hsti hr2 hev hab
                go_upto_region 25 with fail
                refine region_invF 9 (by kernel_rfl) (by kernel_rfl) (fun a0 listed a w => ∃ s113 s114 s115 s116 s117 s118 s119 s120 s121, a = (Act.put (Act.put (Act.put (Act.put (Act.put (Act.put (Act.put (Act.put (Act.put a0 (some 113) s113) (some 114) s114) (some 115) s115) (some 116) s116) (some 117) s117) (some 118) s118) (some 119) s119) (some 120) s120) (some 121) s121) ∧ Below B wr w ∧ (listed.getD 0 false = true → s113 = .agg (v8 NM)) ∧ (listed.getD 1 false = true → s114 = .int .i64 (r : Int)) ∧ (listed.getD 2 false = true → s115 = .int .i64 (r2 : Int)) ∧ (listed.getD 3 false = true → listed.getD 5 false = false → OwnS w B s116 0 []) ∧ (listed.getD 4 false = true → s117 = .slice (some ⟨b8, o8 + lo, none⟩) (lo + 32 - lo) (sc - lo)) ∧ (listed.getD 5 false = true → listed.getD 7 false = false → OwnS w B s118 32 ([] ++ x)) ∧ (listed.getD 6 false = true → s119 = .slice (some ⟨b5, 0, none⟩) 32 32) ∧ (listed.getD 7 false = true → listed.getD 8 false = false → OwnS w B s120 64 ([] ++ x ++ t)) ∧ (listed.getD 8 false = true → s121 = .agg (v8 TN))) ?_ ?_ ?_
                all_goals simp only [Act.put, List.setIfInBounds_toArray, List.set_cons_succ, List.set_cons_zero]
                · exact ⟨_, _, _, _, _, _, _, _, _, rfl, (Below.refl B _).drew, (fun ht => absurd ht (by rw [getD_replicate_false]; decide)), (fun ht => absurd ht (by rw [getD_replicate_false]; decide)), (fun ht => absurd ht (by rw [getD_replicate_false]; decide)), (fun ht => absurd ht (by rw [getD_replicate_false]; decide)), (fun ht => absurd ht (by rw [getD_replicate_false]; decide)), (fun ht => absurd ht (by rw [getD_replicate_false]; decide)), (fun ht => absurd ht (by rw [getD_replicate_false]; decide)), (fun ht => absurd ht (by rw [getD_replicate_false]; decide)), (fun ht => absurd ht (by rw [getD_replicate_false]; decide))⟩
                · intro listed a w i o hls hJ hin ho hi hall hcl
                  obtain ⟨s113, s114, s115, s116, s117, s118, s119, s120, s121, rfl, hbW, c0, c1, c2, c3, c4, c5, c6, c7, c8⟩ := hJ
                  rcases (by omega : i = 0 ∨ i = 1 ∨ i = 2 ∨ i = 3 ∨ i = 4 ∨ i = 5 ∨ i = 6 ∨ i = 7 ∨ i = 8) with rfl | rfl | rfl | rfl | rfl | rfl | rfl | rfl | rfl
                  · obtain rfl := Option.some.inj ho
                    have hsz : 0 < listed.size := by rw [hls]; decide
                    have hbw := hbW
                    refine inv_val (w' := w) (.agg (v8 NM)) rfl rfl (exec_load_row 22 (.tmp 8) rfl g8 rfl 22 _ _ (z8.below hbW (by omega)) Tryd.underlying22 rfl (name_info hNl)) ?_
                    exact ⟨(.agg (v8 NM)), s114, s115, s116, s117, s118, s119, s120, s121, rfl, hbw, (fun _ => rfl), (fun ht => c1 (bit_ne ht (by decide))), (fun ht => c2 (bit_ne ht (by decide))), (fun ht h2 => c3 (bit_ne ht (by decide)) (bit_ne h2 (by decide))), (fun ht => c4 (bit_ne ht (by decide))), (fun ht h2 => c5 (bit_ne ht (by decide)) (bit_ne h2 (by decide))), (fun ht => c6 (bit_ne ht (by decide))), (fun ht h2 => c7 (bit_ne ht (by decide)) (bit_ne h2 (by decide))), (fun ht => c8 (bit_ne ht (by decide)))⟩
                  · obtain rfl := Option.some.inj ho
                    have hsz : 1 < listed.size := by rw [hls]; decide
                    have hbw := hbW
                    refine inv_val (w' := w) (.int .i64 (r : Int)) rfl rfl rfl ?_
                    exact ⟨s113, (.int .i64 (r : Int)), s115, s116, s117, s118, s119, s120, s121, rfl, hbw, (fun ht => c0 (bit_ne ht (by decide))), (fun _ => rfl), (fun ht => c2 (bit_ne ht (by decide))), (fun ht h2 => c3 (bit_ne ht (by decide)) (bit_ne h2 (by decide))), (fun ht => c4 (bit_ne ht (by decide))), (fun ht h2 => c5 (bit_ne ht (by decide)) (bit_ne h2 (by decide))), (fun ht => c6 (bit_ne ht (by decide))), (fun ht h2 => c7 (bit_ne ht (by decide)) (bit_ne h2 (by decide))), (fun ht => c8 (bit_ne ht (by decide)))⟩
                  · obtain rfl := Option.some.inj ho
                    have hsz : 2 < listed.size := by rw [hls]; decide
                    have hdep1 : listed.getD 1 false = true := hall ⟨1, .data⟩ (by simp) (by rfl)
                    obtain rfl := c1 hdep1
                    have hbw := hbW
                    refine inv_val (w' := w) (.int .i64 (r2 : Int)) rfl rfl (by have h9 : IntKind.i64.wrap (r2 : Int) = (r2 : Int) := (by rw [IntKind.wrap_i64]; omega); go_simp) ?_
                    exact ⟨s113, (.int .i64 (r : Int)), (.int .i64 (r2 : Int)), s116, s117, s118, s119, s120, s121, rfl, hbw, (fun ht => c0 (bit_ne ht (by decide))), (fun ht => c1 (bit_ne ht (by decide))), (fun _ => rfl), (fun ht h2 => c3 (bit_ne ht (by decide)) (bit_ne h2 (by decide))), (fun ht => c4 (bit_ne ht (by decide))), (fun ht h2 => c5 (bit_ne ht (by decide)) (bit_ne h2 (by decide))), (fun ht => c6 (bit_ne ht (by decide))), (fun ht h2 => c7 (bit_ne ht (by decide)) (bit_ne h2 (by decide))), (fun ht => c8 (bit_ne ht (by decide)))⟩
                  · obtain rfl := Option.some.inj ho
                    have hsz : 3 < listed.size := by rw [hls]; decide
                    have hbw : Below B wr (w.alloc (.cells (v8 []) 5)) := hbW.alloc (hsB hbW) _
                    refine inv_val (.slice (some ⟨w.heap.size, 0, none⟩) 0 0) (w' := w.alloc (.cells (v8 []) 5)) rfl rfl (by kernel_rfl) ?_
                    exact ⟨s113, s114, s115, (.slice (some ⟨w.heap.size, 0, none⟩) 0 0), s117, s118, s119, s120, s121, rfl, hbw, (fun ht => c0 (bit_ne ht (by decide))), (fun ht => c1 (bit_ne ht (by decide))), (fun ht => c2 (bit_ne ht (by decide))), (fun _ _ => OwnS.new w B (hsB hbW)), (fun ht => c4 (bit_ne ht (by decide))), (fun ht h2 => (c5 (bit_ne ht (by decide)) (bit_ne h2 (by decide))).alloc _), (fun ht => c6 (bit_ne ht (by decide))), (fun ht h2 => (c7 (bit_ne ht (by decide)) (bit_ne h2 (by decide))).alloc _), (fun ht => c8 (bit_ne ht (by decide)))⟩
                  · obtain rfl := Option.some.inj ho
                    have hsz : 4 < listed.size := by rw [hls]; decide
                    have hbw := hbW
                    refine inv_val (w' := w) (.slice (some ⟨b8, o8 + lo, none⟩) (lo + 32 - lo) (sc - lo)) rfl rfl rfl ?_
                    exact ⟨s113, s114, s115, s116, (.slice (some ⟨b8, o8 + lo, none⟩) (lo + 32 - lo) (sc - lo)), s118, s119, s120, s121, rfl, hbw, (fun ht => c0 (bit_ne ht (by decide))), (fun ht => c1 (bit_ne ht (by decide))), (fun ht => c2 (bit_ne ht (by decide))), (fun ht h2 => c3 (bit_ne ht (by decide)) (bit_ne h2 (by decide))), (fun _ => rfl), (fun ht h2 => c5 (bit_ne ht (by decide)) (bit_ne h2 (by decide))), (fun ht => c6 (bit_ne ht (by decide))), (fun ht h2 => c7 (bit_ne ht (by decide)) (bit_ne h2 (by decide))), (fun ht => c8 (bit_ne ht (by decide)))⟩
                  · obtain rfl := Option.some.inj ho
                    have hsz : 5 < listed.size := by rw [hls]; decide
                    have hdep3 : listed.getD 3 false = true := hall ⟨3, .data⟩ (by simp) (by rfl)
                    obtain ⟨sp3, cap3, rfl, o3⟩ := c3 hdep3 hi
                    have hdep4 : listed.getD 4 false = true := hall ⟨4, .data⟩ (by simp) (by rfl)
                    obtain rfl := c4 hdep4
                    refine inv_op rfl rfl (wp8g (.tmp 116) (.tmp 117) 28 5 rfl B Tryd.underlying28 info5 _ [] rfl o3 (some ⟨b8, o8 + lo, none⟩) (lo + 32 - lo) (sc - lo) x rfl hXi2 (fun ht => by cases ht) (hxw w (zb.trans (hbW.mono (by omega)))) (by first | omega | simp | (simp; omega)) (hsB hbW) ?_)
                    intro sp cap w' ow hb' hgg
                    have hg := Grew.of hgg
                    have hbw : Below B wr w' := hbW.trans hb'
                    have hown := o3
                    rw [hA1] at ow ⊢
                    exact ⟨s113, s114, s115, (.slice sp3 0 cap3), (.slice (some ⟨b8, o8 + lo, none⟩) (lo + 32 - lo) (sc - lo)), (.slice sp 32 cap), s119, s120, s121, rfl, hbw, (fun ht => c0 (bit_ne ht (by decide))), (fun ht => c1 (bit_ne ht (by decide))), (fun ht => c2 (bit_ne ht (by decide))), (fun _ h2 => absurd (bit_on hsz) (by rw [h2]; decide)), (fun ht => c4 (bit_ne ht (by decide))), (fun _ _ => ⟨sp, cap, rfl, ow⟩), (fun ht => c6 (bit_ne ht (by decide))), (fun ht _ => absurd (hcl 7 _ rfl (bit_ne ht (by decide)) ⟨5, .data⟩ (by simp) rfl) (by rw [hi]; decide)), (fun ht => c8 (bit_ne ht (by decide)))⟩
                  · obtain rfl := Option.some.inj ho
                    have hsz : 6 < listed.size := by rw [hls]; decide
                    have hbw := hbW
                    refine inv_val (w' := w) (.slice (some ⟨b5, 0, none⟩) 32 32) rfl rfl (by kernel_rfl) ?_
                    exact ⟨s113, s114, s115, s116, s117, s118, (.slice (some ⟨b5, 0, none⟩) 32 32), s120, s121, rfl, hbw, (fun ht => c0 (bit_ne ht (by decide))), (fun ht => c1 (bit_ne ht (by decide))), (fun ht => c2 (bit_ne ht (by decide))), (fun ht h2 => c3 (bit_ne ht (by decide)) (bit_ne h2 (by decide))), (fun ht => c4 (bit_ne ht (by decide))), (fun ht h2 => c5 (bit_ne ht (by decide)) (bit_ne h2 (by decide))), (fun _ => rfl), (fun ht h2 => c7 (bit_ne ht (by decide)) (bit_ne h2 (by decide))), (fun ht => c8 (bit_ne ht (by decide)))⟩
                  · obtain rfl := Option.some.inj ho
                    have hsz : 7 < listed.size := by rw [hls]; decide
                    have hdep5 : listed.getD 5 false = true := hall ⟨5, .data⟩ (by simp) (by rfl)
                    obtain ⟨sp5, cap5, rfl, o5⟩ := c5 hdep5 hi
                    have hdep6 : listed.getD 6 false = true := hall ⟨6, .data⟩ (by simp) (by rfl)
                    obtain rfl := c6 hdep6
                    refine inv_op rfl rfl (wp8g (.tmp 118) (.tmp 119) 28 5 rfl B Tryd.underlying28 info5 _ ([] ++ x) rfl o5 (some ⟨b5, 0, none⟩) 32 32 t rfl hTi (fun ht => by cases ht) (zt.below hbW (by omega)).bytes (by first | omega | simp | (simp; omega)) (hsB hbW) ?_)
                    intro sp cap w' ow hb' hgg
                    have hg := Grew.of hgg
                    have hbw : Below B wr w' := hbW.trans hb'
                    have hown := o5
                    rw [hA2] at ow ⊢
                    exact ⟨s113, s114, s115, s116, s117, (.slice sp5 32 cap5), (.slice (some ⟨b5, 0, none⟩) 32 32), (.slice sp 64 cap), s121, rfl, hbw, (fun ht => c0 (bit_ne ht (by decide))), (fun ht => c1 (bit_ne ht (by decide))), (fun ht => c2 (bit_ne ht (by decide))), (fun _ h2 => absurd hdep5 (by rw [bit_ne h2 (by decide)]; decide)), (fun ht => c4 (bit_ne ht (by decide))), (fun _ h2 => absurd (bit_on hsz) (by rw [h2]; decide)), (fun ht => c6 (bit_ne ht (by decide))), (fun _ _ => ⟨sp, cap, rfl, ow⟩), (fun ht => c8 (bit_ne ht (by decide)))⟩
                  · obtain rfl := Option.some.inj ho
                    have hsz : 8 < listed.size := by rw [hls]; decide
                    have hdep0 : listed.getD 0 false = true := hall ⟨0, .data⟩ (by simp) (by rfl)
                    obtain rfl := c0 hdep0
                    have hdep2 : listed.getD 2 false = true := hall ⟨2, .data⟩ (by simp) (by rfl)
                    obtain rfl := c2 hdep2
                    have hdep7 : listed.getD 7 false = true := hall ⟨7, .data⟩ (by simp) (by rfl)
                    obtain ⟨sp7, cap7, rfl, o7⟩ := c7 hdep7 hi
                    refine inv_call 56 #[.agg (v8 NM), .int .i64 (r2 : Int), .int .u8 131, .slice sp7 64 cap7] _ rfl rfl (by kernel_rfl) (hnode w sp7 cap7 o7) ?_
                    rintro e w' ⟨rfl, hb⟩
                    have hbw : Below B wr w' := hbW.trans (hb.mono (hsB hbW))
                    refine ⟨_, rfl, ?_⟩
                    exact ⟨(.agg (v8 NM)), s114, (.int .i64 (r2 : Int)), s116, s117, s118, s119, (.slice sp7 64 cap7), (.agg (v8 TN)), rfl, hbw, (fun ht => c0 (bit_ne ht (by decide))), (fun ht => c1 (bit_ne ht (by decide))), (fun ht => c2 (bit_ne ht (by decide))), (fun ht h2 => (c3 (bit_ne ht (by decide)) (bit_ne h2 (by decide))).below hb), (fun ht => c4 (bit_ne ht (by decide))), (fun ht h2 => (c5 (bit_ne ht (by decide)) (bit_ne h2 (by decide))).below hb), (fun ht => c6 (bit_ne ht (by decide))), (fun _ h2 => absurd (bit_on hsz) (by rw [h2]; decide)), (fun _ => rfl)⟩
                · intro listed a w hall hJ
                  obtain ⟨s113, s114, s115, s116, s117, s118, s119, s120, s121, rfl, hbW, c0, c1, c2, c3, c4, c5, c6, c7, c8⟩ := hJ
                  obtain rfl := c0 (hall 0 (by omega))
                  obtain rfl := c1 (hall 1 (by omega))
                  obtain rfl := c2 (hall 2 (by omega))
                  obtain rfl := c4 (hall 4 (by omega))
                  obtain rfl := c6 (hall 6 (by omega))
                  obtain rfl := c8 (hall 8 (by omega))
                  simp only [List.drop_succ_cons, List.drop_zero]
                  have y8 := z8.below hbW (by omega)
                  have yt := zt.below hbW (by omega)
                  have yb := zb.trans (hbW.mono (by omega))
                  clear z8 zt zb hall hsB c0 c1 c2 c3 c4 c5 c6 c7 c8 hbW listed hnode hxw
                  generalize w = w11 at *
                  go_wp2_with (refine store_row0 24 (.tmp 14) (.tmp 121) (by rfl) (by rfl) (by rfl) b5 (v8 TN) (by rfl) (by rfl) 24 (v8 t) yt (id_info hTn) (by rw [v8_size, v8_size, hTi, hTn]) (v8_one _) ?_)
                  go_roundw
                  case rel => exact ⟨i + 1, r2, hnx.symm, rfl, by go_num, by omega, y8.setRowOther hne5 _, by have h9 : T (i + 1) = TN := hTN'; rw [h9]; exact yt.setRow _, below_setRow yb hg5 _⟩
                  case measure => simp [intOf]; omega
            · obtain rfl : i = ht := by omega
              have hr1 : r = 1 := hr.trans hdone
              clear hr hst hXb hXL hmore hab hlt
              subst hr1
              have hTi := hTl i
              have hTb := hTo i
              have hP24 : P.length = 56 := by omega
              have hQl : (P.drop 24).length = 32 := by rw [List.length_drop]; omega
              have hcq : cutL P 24 = P.drop 24 := by unfold cutL; exact List.take_of_length_le (by omega)
              have hQb : ∀ x ∈ P.drop 24, 0 ≤ x ∧ x < 256 := fun x hx => hPr x (List.mem_of_mem_drop hx)
              unfold Hid at hOUT2
              rw [hcq] at hOUT2
              have hbP : ∀ k, Bytes (wr.drewN k) (some ⟨b, o + 24, none⟩) (P.drop 24) := fun k => Bytes.drop (hPb.below (below_drewN zb k)) 24
              have hcv1 : ∀ k, (convert 28 9 (.slice (some ⟨b5, 0, none⟩) 32 32)).run Tryd.prog (wr.drewN k) = .ok (.string (strOfNums (T i))) (wr.drewN k) := fun k => run_str28 _ b5 0 32 32 _ (by decide) hTi ((zt.drewN k).bytes)
              have hcv2 : ∀ k, (convert 28 9 (.slice (some ⟨b, o + 24, none⟩) 32 (pc - 24))).run Tryd.prog (wr.drewN k) = .ok (.string (strOfNums (P.drop 24))) (wr.drewN k) := fun k => run_str28 _ b (o + 24) 32 (pc - 24) _ (by decide) hQl (hbP k)
              have hpcI : (56 : Int) ≤ (pc : Int) := by omega
              have hpc24 : ¬ pc = 24 := by omega
              by_cases hfin : T i = P.drop 24
              · rw [if_pos hfin] at hOUT2
                rw [← hfin] at hcv2
                subst hOUT2
                clear hfin hcq hQb hbP hTb hTo hTl hdone hP24
                generalize strOfNums (T i) = s1 at *
                go_upto_region 27 with fail
                refine wp_region_quiet_lit (by kernel_rfl) (by kernel_rfl) ?_
                repeat (go_big_quiet_step (fail))
                refine wpQuiet_nil ?_
                rintro _ ⟨nq, rfl⟩
                go_wp2
                go_ret
                exact ⟨rfl, below_drewN zb nq⟩
              · rw [if_neg hfin] at hOUT2
                have hst8 := str_inj8 hTb hQb hfin
                subst hOUT2
                clear hfin hcq hQb hbP hTb hTo hTl hdone hP24
                generalize strOfNums (T i) = s1 at *
                generalize strOfNums (P.drop 24) = s2 at *
                go_upto_region 27 with fail
                refine wp_region_quiet_lit (by kernel_rfl) (by kernel_rfl) ?_
                repeat (go_big_quiet_step (fail))
                refine wpQuiet_nil ?_
                rintro _ ⟨nq, rfl⟩
                go_wp2
                go_ret
                exact ⟨rfl, below_drewN zb nq⟩

end Go.Proofs.YtoebnkepeledmaaDoor
