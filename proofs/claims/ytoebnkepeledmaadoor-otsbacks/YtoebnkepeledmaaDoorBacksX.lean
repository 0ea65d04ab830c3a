/- OtsBacks, two ways of changing: true, and no old memory turns. -/
import Derived.Test.YtoebnkepeledmaaDoorBackRef
namespace Go.Proofs.YtoebnkepeledmaaDoor

section
open Go Go.RowKit

set_option maxRecDepth 20000 in
set_option maxHeartbeats 2500000 in
theorem backs_c0 (S : List Int → List Int) (hS : Hash S) (nm seed msg raw : List Int) (q at_ by_ how : Int) (mp rp : Option Addr) (ml mc rl rc : Nat) (w0 : World) (hL : Laid w0) (hn : nm.length = 16) (hs : seed.length = 32) (hml : msg.length = ml) (hmc : ml ≤ mc) (hmn : mp = none → mc = 0 ∧ ml = 0) (hmm : ml ≤ 200) (hmb : Bytes w0 mp msg) (hrl : raw.length = rl) (hrc : rl ≤ rc) (hrn : rp = none → rc = 0 ∧ rl = 0) (hrm : rl ≤ 6000) (hrb : Bytes w0 rp raw) (hr8 : ∀ x ∈ raw, 0 ≤ x ∧ x < 256) (hat : 0 ≤ at_) (hat2 : at_ < 9223372036854775808) (hho : 0 ≤ how) (hho2 : how < 9223372036854775808) (hbb : 0 ≤ by_ ∧ by_ < 256) (k6 : how % 6 = 0) :
    Calls Tryd.prog 5 #[.agg (v8 nm), .int .i64 q, .agg (v8 seed), .slice mp ml mc, .int .i64 at_, .int .u8 by_, .int .i64 how, .slice rp rl rc] w0 fun e w' => e = .returned (.bool true) ∧ Below w0.heap.size w0 w' := by
  have _u : True := (fun (_ : ml ≤ mc) (_ : rp = none → rc = 0 ∧ rl = 0) (_ : 0 ≤ by_ ∧ by_ < 256) => trivial) hmc hrn hbb
  have hK : ∀ wx, Laid wx → Calls Tryd.prog 14 #[] wx fun e w' => e = .returned (.bool true) ∧ Below wx.heap.size wx w' := fun wx hl => known5_any S hS wx hl
  have hRS : ∀ wx, Bytes wx mp msg → Calls Tryd.prog 19 #[.agg (v8 nm), .int .i64 q, .agg (v8 seed), .slice mp ml mc] wx fun e w' => ∃ sp cap, e = .returned (.slice sp 4292 cap) ∧ Own8 w' wx.heap.size 5 (.slice sp 4292 cap) (sigL S (nm ++ n4 q) seed msg) ∧ Below wx.heap.size wx w' := fun wx hb => rSign_any S hS nm seed msg q mp ml mc wx hn hs hml hmn (by omega) hb
  have hSGl : (sigL S (nm ++ n4 q) seed msg).length = 4292 := sigL_len (fun l => hS.len l) _ _ _
  have hSGt4 := sigL_type S (nm ++ n4 q) seed msg
  generalize sigL S (nm ++ n4 q) seed msg = SG at *
  have z32 := zv32
  have d1 : ¬ (200 : Int) < (ml : Int) := by omega
  have k1 : decide ((200 : Int) < (ml : Int)) = false := by simpa using d1
  have d2 : ¬ (6000 : Int) < (rl : Int) := by omega
  have k2 : decide ((6000 : Int) < (rl : Int)) = false := by simpa using d2
  have d3 : ¬ at_ < 0 := by omega
  have k3 : decide (at_ < 0) = false := by simpa using d3
  have d4 : ¬ how < 0 := by omega
  have k4 : decide (how < 0) = false := by simpa using d4
  go_enter Tryd.func5, Tryd.ntmps5
  go_upto_region 1 with fail
  have r0 : Row (World.alloc (World.alloc w0 (.cells (v8 nm) 22)) (.cells (v8 seed) 24)) w0.heap.size 22 (v8 nm) := (Row.new _ _ _).alloc _
  have r1 : Row (World.alloc (World.alloc w0 (.cells (v8 nm) 22)) (.cells (v8 seed) 24)) (w0.heap.size + 1) 24 (v8 seed) := Row.newAt _ _ _ _ (by simp)
  have b1 : Below w0.heap.size w0 (World.alloc (World.alloc w0 (.cells (v8 nm) 22)) (.cells (v8 seed) 24)) := ((Below.refl _ _).alloc (Nat.le_refl _) _).alloc (by simp) _
  change Code.wp _ _ _ _ ((World.alloc (World.alloc w0 (.cells (v8 nm) 22)) (.cells (v8 seed) 24)))
  generalize (World.alloc (World.alloc w0 (.cells (v8 nm) 22)) (.cells (v8 seed) 24)) = w1 at r0 r1 b1 ⊢
  go_upto_region 5 with (go_at_call 14; (with_reducible refine Calls.mono (hK _ (hL.below b1)) ?_); rintro e w2 ⟨rfl, hb2⟩)
  have p0 := r0.below hb2 r0.lt
  have p1 := r1.below hb2 r1.lt
  have pb := b1.trans (hb2.mono b1.size)
  have hp1 := p1.lt
  clear r0 r1 b1 hb2
  go_upto_region 6 with (first | (refine wpList_load_row (by rfl) 22 (.tmp 8) (by rfl) w0.heap.size (by rfl) 22 (v8 nm) (0, 0) _ p0 Tryd.underlying22 rfl (name_info hn) ?_) | (refine wpList_load_row (by rfl) 24 (.tmp 10) (by rfl) (w0.heap.size + 1) (by rfl) 24 (v8 seed) (0, 0) _ p1 Tryd.underlying24 rfl (id_info hs) ?_) | (go_at_call 19; (with_reducible refine Calls.mono (hRS _ (hmb.below pb)) ?_); rintro e w3 ⟨sp, cap, rfl, so, hb3⟩))
  have y0 := p0.below hb3 (by omega)
  have yb := pb.trans (hb3.mono pb.size)
  have hB : w0.heap.size + 1 < w2.heap.size := hp1
  obtain ⟨B, hBB⟩ : ∃ B, B = w2.heap.size := ⟨_, rfl⟩
  rw [← hBB] at so hB
  clear p0 p1 pb hb3 hK hRS hp1 hBB
  have n42 : ∀ x ∈ n4 2, 0 ≤ x ∧ x < 256 := by
    intro x hx
    have : n4 2 = [0, 0, 0, 2] := by decide
    rw [this] at hx
    simp at hx
    omega
  have t6 : how.tmod 6 = how % 6 := Int.tmod_eq_emod_of_nonneg hho
  go_upto_region 7 with fail
  rw [k6] at t6
  obtain ⟨n, hN⟩ := Int.eq_ofNat_of_zero_le (Int.emod_nonneg at_ (show (4292 : Int) ≠ 0 by decide))
  have hN2 : n < 4292 := by omega
  have ta : at_.tmod 4292 = (n : Int) := by rw [Int.tmod_eq_emod_of_nonneg hat, hN]
  have hcp := own_cap so (by omega)
  obtain ⟨gs, cur, rfl, _, hgs, hrw, hcl⟩ := so.row (by omega)
  have c1 := hcl n (by omega)
  have f1 := hrw.frozen (j := n)
  go_upto_region 19 with fail
  obtain ⟨V, hV⟩ : ∃ V, V = IntKind.u8.wrap (gi SG n + by_) := ⟨_, rfl⟩
  have hV8 : 0 ≤ V ∧ V < 256 := by rw [hV]; unfold IntKind.wrap; simp [IntKind.bits, IntKind.signed]; omega
  have hsB : Bytes (w3.setCell ⟨gs, n, none⟩ (.int .u8 V)) (some ⟨gs, 0, none⟩) (SG.set n V) := bytes_set n V (by omega) hcl
  replace yb : Below w0.heap.size w0 (w3.setCell ⟨gs, n, none⟩ (.int .u8 V)) := yb.setCell (by show w0.heap.size ≤ gs; omega) _
  replace y0 : Row (w3.setCell ⟨gs, n, none⟩ (.int .u8 V)) w0.heap.size 22 (v8 nm) := y0.setOther (by show w0.heap.size ≠ gs; omega) _
  have hmB := hmb.below yb
  have hrB := hrb.below yb
  have hsl' : (SG.set n V).length = 4292 := by rw [List.length_set]; exact hSGl
  have h8' : ∀ x ∈ (SG.set n V).take 4, 0 ≤ x ∧ x < 256 := fun x hx => by
    rw [List.take_set, hSGt4] at hx
    rcases List.mem_or_eq_of_mem_set hx with h | h
    · exact n42 x h
    · rw [h]; exact hV8
  first | rw [← hV] | (change Code.wp _ _ _ _ (w3.setCell ⟨gs, n, none⟩ (.int .u8 (IntKind.u8.wrap (gi SG n + by_)))); rw [← hV]) | trace_state
  generalize w3.setCell ⟨gs, n, none⟩ (.int .u8 V) = w4 at *
  generalize SG.set n V = SN at *
  clear so hrw hcl
  obtain ⟨PA, EA, hPA, ba, ra⟩ := backs_agree S hS nm SN msg q mp (some ⟨gs, 0, none⟩) ml mc 4292 cap hn hml hmn (by omega) hsl' hcp h8'
  obtain ⟨PB, EB, hPB, bb, rb⟩ := backs_agree S hS nm raw msg q mp rp ml mc rl rc hn hml hmn (by omega) hrl hrc (fun x hx => hr8 x (List.mem_of_mem_take hx))
  have heqA : ∀ wx, (binOp .eql 24 (.agg (v8 PA)) (.agg (v8 PA))).run Tryd.prog wx = .ok (.bool true) wx := fun wx => by
    rw [run_eql_bytes wx 24 5 32 _ _ Tryd.underlying24 Tryd.underlying5 (by kernel_rfl) hPA hPA]; simp
  have heqB : ∀ wx, (binOp .eql 24 (.agg (v8 PB)) (.agg (v8 PB))).run Tryd.prog wx = .ok (.bool true) wx := fun wx => by
    rw [run_eql_bytes wx 24 5 32 _ _ Tryd.underlying24 Tryd.underlying5 (by kernel_rfl) hPB hPB]; simp
  have A0 := ba w4 (hL.below yb) hmB hsB
  go_upto_region 20 with (first | (refine wpList_load_row (by rfl) 22 (.tmp 8) (by rfl) w0.heap.size (by rfl) 22 (v8 nm) (0, 0) _ y0 Tryd.underlying22 rfl (name_info hn) ?_) | (go_at_call 18; (with_reducible refine Calls.mono A0 ?_); rintro e m0 ⟨rfl, hb0⟩) | (refine store_row0 24 (.tmp 18) (.tmp 105) (by rfl) (by rfl) (by rfl) m0.heap.size (v8 PA) (by rfl) (by rfl) 24 (v8 (zer 32)) (Row.new m0 24 _) (id_info hPA) (by rw [v8_size, v8_size, hPA, zer_len]) (v8_one _) ?_))
  have c0 : Below w4.heap.size w4 ((m0.alloc (.cells (v8 (zer 32)) 24)).setRow m0.heap.size (v8 PA)) := below_setRow (hb0.alloc hb0.size _) hb0.size _
  have x0 := (Row.new m0 24 (v8 (zer 32))).setRow (v8 PA)
  change Code.wp _ _ _ _ ((m0.alloc (.cells (v8 (zer 32)) 24)).setRow m0.heap.size (v8 PA))
  obtain ⟨g0, hg0⟩ : ∃ g0, g0 = m0.heap.size := ⟨_, rfl⟩
  rw [← hg0] at c0 x0 ⊢
  generalize (m0.alloc (.cells (v8 (zer 32)) 24)).setRow g0 (v8 PA) = n0 at c0 x0 ⊢
  clear A0 hb0 hg0
  replace y0 := y0.below c0 y0.lt
  replace yb := yb.trans (c0.mono yb.size)
  replace hmB := hmB.below c0
  replace hsB := hsB.below c0
  replace hrB := hrB.below c0
  clear c0
  have A1 := ra n0 hmB hsB
  go_upto_region 21 with (first | (refine wpList_load_row (by rfl) 22 (.tmp 8) (by rfl) w0.heap.size (by rfl) 22 (v8 nm) (0, 0) _ y0 Tryd.underlying22 rfl (name_info hn) ?_) | (go_at_call 20; (with_reducible refine Calls.mono A1 ?_); rintro e m1 ⟨rfl, hb1⟩) | (refine store_row0 24 (.tmp 20) (.tmp 113) (by rfl) (by rfl) (by rfl) m1.heap.size (v8 PA) (by rfl) (by rfl) 24 (v8 (zer 32)) (Row.new m1 24 _) (id_info hPA) (by rw [v8_size, v8_size, hPA, zer_len]) (v8_one _) ?_))
  have c1 : Below n0.heap.size n0 ((m1.alloc (.cells (v8 (zer 32)) 24)).setRow m1.heap.size (v8 PA)) := below_setRow (hb1.alloc hb1.size _) hb1.size _
  have x1 := (Row.new m1 24 (v8 (zer 32))).setRow (v8 PA)
  change Code.wp _ _ _ _ ((m1.alloc (.cells (v8 (zer 32)) 24)).setRow m1.heap.size (v8 PA))
  obtain ⟨g1, hg1⟩ : ∃ g1, g1 = m1.heap.size := ⟨_, rfl⟩
  rw [← hg1] at c1 x1 ⊢
  generalize (m1.alloc (.cells (v8 (zer 32)) 24)).setRow g1 (v8 PA) = n1 at c1 x1 ⊢
  clear A1 hb1 hg1
  replace y0 := y0.below c1 y0.lt
  replace x0 := x0.below c1 x0.lt
  replace yb := yb.trans (c1.mono yb.size)
  replace hmB := hmB.below c1
  replace hsB := hsB.below c1
  replace hrB := hrB.below c1
  clear c1
  have A2 := bb n1 (hL.below yb) hmB hrB
  go_upto_region 22 with (first | (refine wpList_load_row (by rfl) 22 (.tmp 8) (by rfl) w0.heap.size (by rfl) 22 (v8 nm) (0, 0) _ y0 Tryd.underlying22 rfl (name_info hn) ?_) | (go_at_call 18; (with_reducible refine Calls.mono A2 ?_); rintro e m2 ⟨rfl, hb2⟩) | (refine store_row0 24 (.tmp 22) (.tmp 121) (by rfl) (by rfl) (by rfl) m2.heap.size (v8 PB) (by rfl) (by rfl) 24 (v8 (zer 32)) (Row.new m2 24 _) (id_info hPB) (by rw [v8_size, v8_size, hPB, zer_len]) (v8_one _) ?_))
  have c2 : Below n1.heap.size n1 ((m2.alloc (.cells (v8 (zer 32)) 24)).setRow m2.heap.size (v8 PB)) := below_setRow (hb2.alloc hb2.size _) hb2.size _
  have x2 := (Row.new m2 24 (v8 (zer 32))).setRow (v8 PB)
  change Code.wp _ _ _ _ ((m2.alloc (.cells (v8 (zer 32)) 24)).setRow m2.heap.size (v8 PB))
  obtain ⟨g2, hg2⟩ : ∃ g2, g2 = m2.heap.size := ⟨_, rfl⟩
  rw [← hg2] at c2 x2 ⊢
  generalize (m2.alloc (.cells (v8 (zer 32)) 24)).setRow g2 (v8 PB) = n2 at c2 x2 ⊢
  clear A2 hb2 hg2
  replace y0 := y0.below c2 y0.lt
  replace x0 := x0.below c2 x0.lt
  replace x1 := x1.below c2 x1.lt
  replace yb := yb.trans (c2.mono yb.size)
  replace hmB := hmB.below c2
  replace hsB := hsB.below c2
  replace hrB := hrB.below c2
  clear c2
  have A3 := rb n2 hmB hrB
  go_upto_region 23 with (first | (refine wpList_load_row (by rfl) 22 (.tmp 8) (by rfl) w0.heap.size (by rfl) 22 (v8 nm) (0, 0) _ y0 Tryd.underlying22 rfl (name_info hn) ?_) | (go_at_call 20; (with_reducible refine Calls.mono A3 ?_); rintro e m3 ⟨rfl, hb3⟩) | (refine store_row0 24 (.tmp 24) (.tmp 129) (by rfl) (by rfl) (by rfl) m3.heap.size (v8 PB) (by rfl) (by rfl) 24 (v8 (zer 32)) (Row.new m3 24 _) (id_info hPB) (by rw [v8_size, v8_size, hPB, zer_len]) (v8_one _) ?_))
  have c3 : Below n2.heap.size n2 ((m3.alloc (.cells (v8 (zer 32)) 24)).setRow m3.heap.size (v8 PB)) := below_setRow (hb3.alloc hb3.size _) hb3.size _
  have x3 := (Row.new m3 24 (v8 (zer 32))).setRow (v8 PB)
  change Code.wp _ _ _ _ ((m3.alloc (.cells (v8 (zer 32)) 24)).setRow m3.heap.size (v8 PB))
  obtain ⟨g3, hg3⟩ : ∃ g3, g3 = m3.heap.size := ⟨_, rfl⟩
  rw [← hg3] at c3 x3 ⊢
  generalize (m3.alloc (.cells (v8 (zer 32)) 24)).setRow g3 (v8 PB) = n3 at c3 x3 ⊢
  clear A3 hb3 hg3
  replace y0 := y0.below c3 y0.lt
  replace x0 := x0.below c3 x0.lt
  replace x1 := x1.below c3 x1.lt
  replace x2 := x2.below c3 x2.lt
  replace yb := yb.trans (c3.mono yb.size)
  replace hmB := hmB.below c3
  replace hsB := hsB.below c3
  replace hrB := hrB.below c3
  clear c3
  clear ba ra bb rb
  go_wp2_with (first | (refine wpList_load_row (by rfl) 24 (.tmp 18) (by rfl) g0 (by rfl) 24 (v8 PA) (0, 0) _ x0 Tryd.underlying24 rfl (id_info hPA) ?_) | (refine wpList_load_row (by rfl) 24 (.tmp 20) (by rfl) g1 (by rfl) 24 (v8 PA) (0, 0) _ x1 Tryd.underlying24 rfl (id_info hPA) ?_) | (refine load_rowG (by kernel_rfl) 24 (.tmp 22) (by rfl) g2 (by rfl) 24 (v8 PB) (0, 0) _ x2 Tryd.underlying24 rfl (id_info hPB) ?_) | (refine load_rowG (by kernel_rfl) 24 (.tmp 24) (by rfl) g3 (by rfl) 24 (v8 PB) (0, 0) _ x3 Tryd.underlying24 rfl (id_info hPB) ?_))
  go_ret
  exact ⟨rfl, yb⟩
end

section
open Go Go.RowKit

set_option maxRecDepth 20000 in
set_option maxHeartbeats 2500000 in
theorem backs_c1 (S : List Int → List Int) (hS : Hash S) (nm seed msg raw : List Int) (q at_ by_ how : Int) (mp rp : Option Addr) (ml mc rl rc : Nat) (w0 : World) (hL : Laid w0) (hn : nm.length = 16) (hs : seed.length = 32) (hml : msg.length = ml) (hmc : ml ≤ mc) (hmn : mp = none → mc = 0 ∧ ml = 0) (hmm : ml ≤ 200) (hmb : Bytes w0 mp msg) (hrl : raw.length = rl) (hrc : rl ≤ rc) (hrn : rp = none → rc = 0 ∧ rl = 0) (hrm : rl ≤ 6000) (hrb : Bytes w0 rp raw) (hr8 : ∀ x ∈ raw, 0 ≤ x ∧ x < 256) (hat : 0 ≤ at_) (hat2 : at_ < 9223372036854775808) (hho : 0 ≤ how) (hho2 : how < 9223372036854775808) (hbb : 0 ≤ by_ ∧ by_ < 256) (k6 : how % 6 = 1) :
    Calls Tryd.prog 5 #[.agg (v8 nm), .int .i64 q, .agg (v8 seed), .slice mp ml mc, .int .i64 at_, .int .u8 by_, .int .i64 how, .slice rp rl rc] w0 fun e w' => e = .returned (.bool true) ∧ Below w0.heap.size w0 w' := by
  have _u : True := (fun (_ : ml ≤ mc) (_ : rp = none → rc = 0 ∧ rl = 0) (_ : 0 ≤ by_ ∧ by_ < 256) => trivial) hmc hrn hbb
  have hK : ∀ wx, Laid wx → Calls Tryd.prog 14 #[] wx fun e w' => e = .returned (.bool true) ∧ Below wx.heap.size wx w' := fun wx hl => known5_any S hS wx hl
  have hRS : ∀ wx, Bytes wx mp msg → Calls Tryd.prog 19 #[.agg (v8 nm), .int .i64 q, .agg (v8 seed), .slice mp ml mc] wx fun e w' => ∃ sp cap, e = .returned (.slice sp 4292 cap) ∧ Own8 w' wx.heap.size 5 (.slice sp 4292 cap) (sigL S (nm ++ n4 q) seed msg) ∧ Below wx.heap.size wx w' := fun wx hb => rSign_any S hS nm seed msg q mp ml mc wx hn hs hml hmn (by omega) hb
  have hSGl : (sigL S (nm ++ n4 q) seed msg).length = 4292 := sigL_len (fun l => hS.len l) _ _ _
  have hSGt4 := sigL_type S (nm ++ n4 q) seed msg
  generalize sigL S (nm ++ n4 q) seed msg = SG at *
  have z32 := zv32
  have d1 : ¬ (200 : Int) < (ml : Int) := by omega
  have k1 : decide ((200 : Int) < (ml : Int)) = false := by simpa using d1
  have d2 : ¬ (6000 : Int) < (rl : Int) := by omega
  have k2 : decide ((6000 : Int) < (rl : Int)) = false := by simpa using d2
  have d3 : ¬ at_ < 0 := by omega
  have k3 : decide (at_ < 0) = false := by simpa using d3
  have d4 : ¬ how < 0 := by omega
  have k4 : decide (how < 0) = false := by simpa using d4
  go_enter Tryd.func5, Tryd.ntmps5
  go_upto_region 1 with fail
  have r0 : Row (World.alloc (World.alloc w0 (.cells (v8 nm) 22)) (.cells (v8 seed) 24)) w0.heap.size 22 (v8 nm) := (Row.new _ _ _).alloc _
  have r1 : Row (World.alloc (World.alloc w0 (.cells (v8 nm) 22)) (.cells (v8 seed) 24)) (w0.heap.size + 1) 24 (v8 seed) := Row.newAt _ _ _ _ (by simp)
  have b1 : Below w0.heap.size w0 (World.alloc (World.alloc w0 (.cells (v8 nm) 22)) (.cells (v8 seed) 24)) := ((Below.refl _ _).alloc (Nat.le_refl _) _).alloc (by simp) _
  change Code.wp _ _ _ _ ((World.alloc (World.alloc w0 (.cells (v8 nm) 22)) (.cells (v8 seed) 24)))
  generalize (World.alloc (World.alloc w0 (.cells (v8 nm) 22)) (.cells (v8 seed) 24)) = w1 at r0 r1 b1 ⊢
  go_upto_region 5 with (go_at_call 14; (with_reducible refine Calls.mono (hK _ (hL.below b1)) ?_); rintro e w2 ⟨rfl, hb2⟩)
  have p0 := r0.below hb2 r0.lt
  have p1 := r1.below hb2 r1.lt
  have pb := b1.trans (hb2.mono b1.size)
  have hp1 := p1.lt
  clear r0 r1 b1 hb2
  go_upto_region 6 with (first | (refine wpList_load_row (by rfl) 22 (.tmp 8) (by rfl) w0.heap.size (by rfl) 22 (v8 nm) (0, 0) _ p0 Tryd.underlying22 rfl (name_info hn) ?_) | (refine wpList_load_row (by rfl) 24 (.tmp 10) (by rfl) (w0.heap.size + 1) (by rfl) 24 (v8 seed) (0, 0) _ p1 Tryd.underlying24 rfl (id_info hs) ?_) | (go_at_call 19; (with_reducible refine Calls.mono (hRS _ (hmb.below pb)) ?_); rintro e w3 ⟨sp, cap, rfl, so, hb3⟩))
  have y0 := p0.below hb3 (by omega)
  have yb := pb.trans (hb3.mono pb.size)
  have hB : w0.heap.size + 1 < w2.heap.size := hp1
  obtain ⟨B, hBB⟩ : ∃ B, B = w2.heap.size := ⟨_, rfl⟩
  rw [← hBB] at so hB
  clear p0 p1 pb hb3 hK hRS hp1 hBB
  have n42 : ∀ x ∈ n4 2, 0 ≤ x ∧ x < 256 := by
    intro x hx
    have : n4 2 = [0, 0, 0, 2] := by decide
    rw [this] at hx
    simp at hx
    omega
  have t6 : how.tmod 6 = how % 6 := Int.tmod_eq_emod_of_nonneg hho
  go_upto_region 7 with fail
  rw [k6] at t6
  have hsB := so.bytes
  have hcp := own_cap so (by omega)
  have hmB := hmb.below yb
  have hrB := hrb.below yb
  obtain ⟨B2, hB2⟩ : ∃ B2, B2 = w3.heap.size := ⟨_, rfl⟩
  have hX1 : (msg ++ [by_]).length = ml + 1 := by rw [List.length_append, hml]; rfl
  go_upto_region 19 with (first | (at_builtin; (refine append8g (.tmp 65) (.tmp 66) 28 5 (by rfl) (by rfl) B2 Tryd.underlying28 info5 (.slice (some ⟨w3.heap.size, 0, none⟩) 0 0) [] (by rfl) ?ho mp ml mc msg (by rfl) hml ?hnil ?hby ?hlen ?hB ?_; (case ho => exact (own8_lit w3 B2 (by omega))); (case hnil => exact hmn); (case hby => exact (hmB.below ((Below.refl _ _).alloc (Nat.le_refl _) _))); (case hlen => first | omega | (simp; omega) | simp); (case hB => first | omega | (simp; omega) | simp); rw [List.nil_append, hml]; intro sp5 cap5 w5 o5 b5 _g5; have hs5 : w3.heap.size ≤ w5.heap.size := (by have h5 := b5.size; simp at h5; omega))) | (at_builtin; (refine append8g (.tmp 67) (.tmp 69) 28 5 (by rfl) (by rfl) B2 Tryd.underlying28 info5 (.slice sp5 ml cap5) msg (by rfl) ?ho (some ⟨w5.heap.size, 0, none⟩) 1 1 [by_] (by rfl) rfl ?hnil ?hby ?hlen ?hB ?_; (case ho => exact (o5.alloc _)); (case hnil => exact (fun h => by cases h)); (case hby => exact (bytes_lit w5 [by_])); (case hlen => first | omega | (simp; omega) | simp); (case hB => first | omega | (simp; omega) | simp); rw [hX1]; intro sp6 cap6 w6 o6 b6 _g6)))
  have c6 : Below B2 w3 w6 := (((Below.refl B2 w3).alloc (by omega) _).trans b5).trans (((Below.refl B2 w5).alloc (by omega) _).trans b6)
  have hz6 := o6.bytes
  have hc6 := own_cap o6 (by rw [hX1]; omega)
  have hn6 := own_nil o6 (by rw [hX1]; omega)
  rw [hB2] at c6
  replace y0 := y0.below c6 y0.lt
  replace yb := yb.trans (c6.mono yb.size)
  replace hsB := hsB.below c6
  replace hrB := hrB.below c6
  clear hmB
  have hmB := hz6
  generalize msg ++ [by_] = MG at *
  clear so o5 o6 b5 b6 c6 hz6
  obtain ⟨PA, EA, hPA, ba, ra⟩ := backs_agree S hS nm SG MG q sp6 sp (ml + 1) cap6 4292 cap hn hX1 hn6 (by omega) hSGl hcp (by rw [hSGt4]; exact n42)
  obtain ⟨PB, EB, hPB, bb, rb⟩ := backs_agree S hS nm raw MG q sp6 rp (ml + 1) cap6 rl rc hn hX1 hn6 (by omega) hrl hrc (fun x hx => hr8 x (List.mem_of_mem_take hx))
  have heqA : ∀ wx, (binOp .eql 24 (.agg (v8 PA)) (.agg (v8 PA))).run Tryd.prog wx = .ok (.bool true) wx := fun wx => by
    rw [run_eql_bytes wx 24 5 32 _ _ Tryd.underlying24 Tryd.underlying5 (by kernel_rfl) hPA hPA]; simp
  have heqB : ∀ wx, (binOp .eql 24 (.agg (v8 PB)) (.agg (v8 PB))).run Tryd.prog wx = .ok (.bool true) wx := fun wx => by
    rw [run_eql_bytes wx 24 5 32 _ _ Tryd.underlying24 Tryd.underlying5 (by kernel_rfl) hPB hPB]; simp
  have A0 := ba w6 (hL.below yb) hmB hsB
  go_upto_region 20 with (first | (refine wpList_load_row (by rfl) 22 (.tmp 8) (by rfl) w0.heap.size (by rfl) 22 (v8 nm) (0, 0) _ y0 Tryd.underlying22 rfl (name_info hn) ?_) | (go_at_call 18; (with_reducible refine Calls.mono A0 ?_); rintro e m0 ⟨rfl, hb0⟩) | (refine store_row0 24 (.tmp 18) (.tmp 105) (by rfl) (by rfl) (by rfl) m0.heap.size (v8 PA) (by rfl) (by rfl) 24 (v8 (zer 32)) (Row.new m0 24 _) (id_info hPA) (by rw [v8_size, v8_size, hPA, zer_len]) (v8_one _) ?_))
  have c0 : Below w6.heap.size w6 ((m0.alloc (.cells (v8 (zer 32)) 24)).setRow m0.heap.size (v8 PA)) := below_setRow (hb0.alloc hb0.size _) hb0.size _
  have x0 := (Row.new m0 24 (v8 (zer 32))).setRow (v8 PA)
  change Code.wp _ _ _ _ ((m0.alloc (.cells (v8 (zer 32)) 24)).setRow m0.heap.size (v8 PA))
  obtain ⟨g0, hg0⟩ : ∃ g0, g0 = m0.heap.size := ⟨_, rfl⟩
  rw [← hg0] at c0 x0 ⊢
  generalize (m0.alloc (.cells (v8 (zer 32)) 24)).setRow g0 (v8 PA) = n0 at c0 x0 ⊢
  clear A0 hb0 hg0
  replace y0 := y0.below c0 y0.lt
  replace yb := yb.trans (c0.mono yb.size)
  replace hmB := hmB.below c0
  replace hsB := hsB.below c0
  replace hrB := hrB.below c0
  clear c0
  have A1 := ra n0 hmB hsB
  go_upto_region 21 with (first | (refine wpList_load_row (by rfl) 22 (.tmp 8) (by rfl) w0.heap.size (by rfl) 22 (v8 nm) (0, 0) _ y0 Tryd.underlying22 rfl (name_info hn) ?_) | (go_at_call 20; (with_reducible refine Calls.mono A1 ?_); rintro e m1 ⟨rfl, hb1⟩) | (refine store_row0 24 (.tmp 20) (.tmp 113) (by rfl) (by rfl) (by rfl) m1.heap.size (v8 PA) (by rfl) (by rfl) 24 (v8 (zer 32)) (Row.new m1 24 _) (id_info hPA) (by rw [v8_size, v8_size, hPA, zer_len]) (v8_one _) ?_))
  have c1 : Below n0.heap.size n0 ((m1.alloc (.cells (v8 (zer 32)) 24)).setRow m1.heap.size (v8 PA)) := below_setRow (hb1.alloc hb1.size _) hb1.size _
  have x1 := (Row.new m1 24 (v8 (zer 32))).setRow (v8 PA)
  change Code.wp _ _ _ _ ((m1.alloc (.cells (v8 (zer 32)) 24)).setRow m1.heap.size (v8 PA))
  obtain ⟨g1, hg1⟩ : ∃ g1, g1 = m1.heap.size := ⟨_, rfl⟩
  rw [← hg1] at c1 x1 ⊢
  generalize (m1.alloc (.cells (v8 (zer 32)) 24)).setRow g1 (v8 PA) = n1 at c1 x1 ⊢
  clear A1 hb1 hg1
  replace y0 := y0.below c1 y0.lt
  replace x0 := x0.below c1 x0.lt
  replace yb := yb.trans (c1.mono yb.size)
  replace hmB := hmB.below c1
  replace hsB := hsB.below c1
  replace hrB := hrB.below c1
  clear c1
  have A2 := bb n1 (hL.below yb) hmB hrB
  go_upto_region 22 with (first | (refine wpList_load_row (by rfl) 22 (.tmp 8) (by rfl) w0.heap.size (by rfl) 22 (v8 nm) (0, 0) _ y0 Tryd.underlying22 rfl (name_info hn) ?_) | (go_at_call 18; (with_reducible refine Calls.mono A2 ?_); rintro e m2 ⟨rfl, hb2⟩) | (refine store_row0 24 (.tmp 22) (.tmp 121) (by rfl) (by rfl) (by rfl) m2.heap.size (v8 PB) (by rfl) (by rfl) 24 (v8 (zer 32)) (Row.new m2 24 _) (id_info hPB) (by rw [v8_size, v8_size, hPB, zer_len]) (v8_one _) ?_))
  have c2 : Below n1.heap.size n1 ((m2.alloc (.cells (v8 (zer 32)) 24)).setRow m2.heap.size (v8 PB)) := below_setRow (hb2.alloc hb2.size _) hb2.size _
  have x2 := (Row.new m2 24 (v8 (zer 32))).setRow (v8 PB)
  change Code.wp _ _ _ _ ((m2.alloc (.cells (v8 (zer 32)) 24)).setRow m2.heap.size (v8 PB))
  obtain ⟨g2, hg2⟩ : ∃ g2, g2 = m2.heap.size := ⟨_, rfl⟩
  rw [← hg2] at c2 x2 ⊢
  generalize (m2.alloc (.cells (v8 (zer 32)) 24)).setRow g2 (v8 PB) = n2 at c2 x2 ⊢
  clear A2 hb2 hg2
  replace y0 := y0.below c2 y0.lt
  replace x0 := x0.below c2 x0.lt
  replace x1 := x1.below c2 x1.lt
  replace yb := yb.trans (c2.mono yb.size)
  replace hmB := hmB.below c2
  replace hsB := hsB.below c2
  replace hrB := hrB.below c2
  clear c2
  have A3 := rb n2 hmB hrB
  go_upto_region 23 with (first | (refine wpList_load_row (by rfl) 22 (.tmp 8) (by rfl) w0.heap.size (by rfl) 22 (v8 nm) (0, 0) _ y0 Tryd.underlying22 rfl (name_info hn) ?_) | (go_at_call 20; (with_reducible refine Calls.mono A3 ?_); rintro e m3 ⟨rfl, hb3⟩) | (refine store_row0 24 (.tmp 24) (.tmp 129) (by rfl) (by rfl) (by rfl) m3.heap.size (v8 PB) (by rfl) (by rfl) 24 (v8 (zer 32)) (Row.new m3 24 _) (id_info hPB) (by rw [v8_size, v8_size, hPB, zer_len]) (v8_one _) ?_))
  have c3 : Below n2.heap.size n2 ((m3.alloc (.cells (v8 (zer 32)) 24)).setRow m3.heap.size (v8 PB)) := below_setRow (hb3.alloc hb3.size _) hb3.size _
  have x3 := (Row.new m3 24 (v8 (zer 32))).setRow (v8 PB)
  change Code.wp _ _ _ _ ((m3.alloc (.cells (v8 (zer 32)) 24)).setRow m3.heap.size (v8 PB))
  obtain ⟨g3, hg3⟩ : ∃ g3, g3 = m3.heap.size := ⟨_, rfl⟩
  rw [← hg3] at c3 x3 ⊢
  generalize (m3.alloc (.cells (v8 (zer 32)) 24)).setRow g3 (v8 PB) = n3 at c3 x3 ⊢
  clear A3 hb3 hg3
  replace y0 := y0.below c3 y0.lt
  replace x0 := x0.below c3 x0.lt
  replace x1 := x1.below c3 x1.lt
  replace x2 := x2.below c3 x2.lt
  replace yb := yb.trans (c3.mono yb.size)
  replace hmB := hmB.below c3
  replace hsB := hsB.below c3
  replace hrB := hrB.below c3
  clear c3
  clear ba ra bb rb
  go_wp2_with (first | (refine wpList_load_row (by rfl) 24 (.tmp 18) (by rfl) g0 (by rfl) 24 (v8 PA) (0, 0) _ x0 Tryd.underlying24 rfl (id_info hPA) ?_) | (refine wpList_load_row (by rfl) 24 (.tmp 20) (by rfl) g1 (by rfl) 24 (v8 PA) (0, 0) _ x1 Tryd.underlying24 rfl (id_info hPA) ?_) | (refine load_rowG (by kernel_rfl) 24 (.tmp 22) (by rfl) g2 (by rfl) 24 (v8 PB) (0, 0) _ x2 Tryd.underlying24 rfl (id_info hPB) ?_) | (refine load_rowG (by kernel_rfl) 24 (.tmp 24) (by rfl) g3 (by rfl) 24 (v8 PB) (0, 0) _ x3 Tryd.underlying24 rfl (id_info hPB) ?_))
  go_ret
  exact ⟨rfl, yb⟩
end

end Go.Proofs.YtoebnkepeledmaaDoor
