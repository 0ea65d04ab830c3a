/- Signatures of ots; the key of lms; nodes of the reference of lms. -/
import Derived.Test.YtoebnkepeledmaaDoorGf
import Derived.Test.YtoebnkepeledmaaDoorGg
import Derived.Test.YtoebnkepeledmaaDoorGi
import Derived.Laws.MakeOwn
namespace Go.Proofs.YtoebnkepeledmaaDoor

section
open Go.RowKit

theorem zv4 (wx : World) : (zeroValue 66).run Tryd.prog wx = .ok (.agg (v8 (zer 4))) wx := by kernel_rfl
theorem a4_info {l : List Int} (h : l.length = 4) : (Tryd.prog.info? 66).map (·.size) = some (v8 l).size := by rw [v8_size, h]; kernel_rfl
theorem make4292 (w : World) : (Instr.makeSlice 28 (.int .i64 4292) (.int .i64 4292)).run Tryd.prog w = .ok (.slice (some ⟨w.heap.size, 0, none⟩) 4292 4292) (w.alloc (.cells (v8 (zer 4292)) 5)) := make8 4292 (by omega) w

set_option maxRecDepth 20000 in
set_option maxHeartbeats 400000 in
theorem Sign_any (S : List Int → List Int) (hS : Hash S) (nm seed msg : List Int) (q : Int) (mp : Option Addr) (len cap : Nat) (w : World) (hL : Laid w) (hn : nm.length = 16) (hs : seed.length = 32) (hm : msg.length = len) (hmax : len ≤ 17592186044416) (hby : Bytes w mp msg) :
    Calls Tryd.prog 17 #[.agg (v8 nm), .int .i64 q, .agg (v8 seed), .slice mp len cap] w fun e w' => ∃ g, e = .returned (.slice (some ⟨g, 0, none⟩) 4292 4292) ∧ w.heap.size ≤ g ∧ Row w' g 5 (v8 (sigL S (nm ++ n4 q) seed msg)) ∧ Below w.heap.size w w' := by
  have hlo := fun wx => leafOf_any nm q wx hn
  have hH : (nm ++ n4 q).length = 20 := by rw [List.length_append, hn, n4_len]
  generalize nm ++ n4 q = H at *
  have hx : ∀ (k : Nat) wx, Laid wx → k < 133 → Calls Tryd.prog 31 #[.agg (v8 H), .int .i64 (k : Int), .agg (v8 seed)] wx fun e w' => e = .returned (.agg (v8 (xL S H seed k))) ∧ Below wx.heap.size wx w' := fun k wx hl hk =>
    start_any S hS H seed k wx hl hH hs (by omega) (by omega)
  have hsa : ∀ wx, Laid wx → Calls Tryd.prog 31 #[.agg (v8 H), .int .i64 65533, .agg (v8 seed)] wx fun e w' => e = .returned (.agg (v8 (saltL S H seed))) ∧ Below wx.heap.size wx w' := fun wx hl =>
    start_any S hS H seed 65533 wx hl hH hs (by omega) (by omega)
  have hcl0 : (saltL S H seed).length = 32 := hS.len _
  have htx : ∀ wx, Laid wx → Bytes wx mp msg → Calls Tryd.prog 39 #[.agg (v8 H), .agg (v8 (saltL S H seed)), .slice mp len cap] wx fun e w' => e = .returned (.agg (v8 (textL S H (saltL S H seed) msg))) ∧ Below wx.heap.size wx w' := fun wx hl hb =>
    text_any S hS H (saltL S H seed) msg mp len cap wx hl hH hcl0 hm hmax hb
  have hsig : sigL S H seed msg = n4 2 ++ saltL S H seed ++ catN (zL S H seed (textL S H (saltL S H seed) msg)) 133 := rfl
  have hQl : (textL S H (saltL S H seed) msg).length = 32 := hS.len _
  have hQ8 : In8 (textL S H (saltL S H seed) msg) := hS.in8 _
  generalize saltL S H seed = SA at *
  generalize textL S H SA msg = Q at *
  have hdg : ∀ wx, Calls Tryd.prog 38 #[.agg (v8 Q)] wx fun e w' => e = .returned (.agg (v64 (digsL Q))) ∧ Below wx.heap.size wx w' := fun wx => digits_any Q wx hQl hQ8
  have hidx : ∀ k : Nat, k < 133 → ∀ wx, (Instr.index 69 (.agg (v64 (digsL Q))) (.int .i64 (k : Int))).run Tryd.prog wx = .ok (.int .i64 (digN (fullL Q) k)) wx := fun k hk wx =>
    run_index_row 69 3 133 .i64 _ .i64 k _ Tryd.underlying69 Tryd.underlying3 (by kernel_rfl) hk (by rw [v64_at (by rw [digsL_len]; exact hk), digsL_at Q k hk])
  have hz : ∀ (k : Nat) wx, Laid wx → k < 133 → Calls Tryd.prog 30 #[.agg (v8 H), .int .i64 (k : Int), .int .i64 0, .int .i64 (digN (fullL Q) k), .agg (v8 (xL S H seed k))] wx fun e w' => e = .returned (.agg (v8 (zL S H seed Q k))) ∧ Below wx.heap.size wx w' := fun k wx hl hk => by
    have hd := digN_nat (fullL Q) k
    have := walk_any S hS H (xL S H seed k) k 0 (digN (fullL Q) k).toNat wx hl hH (hS.len _) (by omega) (by omega) (by omega)
    rw [hd.1] at this
    exact this
  have hzl : ∀ i, (zL S H seed Q i).length = 32 := zL_len (fun l => hS.len l) H seed Q
  have hcl' : Hid (∀ k, (catN (zL S H seed Q) k).length = 32 * k) := catN_len hzl
  have hC0 : catN (zL S H seed Q) 0 = [] := rfl
  have hCs' : Hid (∀ k, catN (zL S H seed Q) (k + 1) = catN (zL S H seed Q) k ++ zL S H seed Q k) := fun _ => rfl
  generalize catN (zL S H seed Q) = C at *
  generalize zL S H seed Q = Y at *
  have hxl : ∀ k : Int, (xL S H seed k).length = 32 := fun k => hS.len _
  generalize xL S H seed = X at *
  generalize digsL Q = DG at *
  generalize digN (fullL Q) = D at *
  have hX0 : (n4 2 ++ SA).length = 36 := by rw [List.length_append, n4_len, hcl0]
  obtain ⟨N4, hN4⟩ : ∃ N4, N4 = n4 2 := ⟨_, rfl⟩
  have hfo : ∀ wx, Calls Tryd.prog 37 #[.int .u32 2] wx fun e w' => e = .returned (.agg (v8 N4)) ∧ Below wx.heap.size wx w' := fun wx => by rw [hN4]; exact four_any 2 wx
  have hN4l : N4.length = 4 := by rw [hN4]; rfl
  rw [← hN4] at hX0
  have hsig' : Hid (sigL S H seed msg = N4 ++ SA ++ C 133) := by show _ = _; rw [hN4]; exact hsig
  clear hN4 hsig
  generalize sigL S H seed msg = SG at *
  have z20 := zv20
  have z32 := zv32
  have z4 := zv4
  have hmk := make4292
  go_enter Tryd.func17, Tryd.ntmps17
  go_upto_region 1 with fail
  have r0 : Row (World.alloc (World.alloc w (.cells (v8 nm) 22)) (.cells (v8 seed) 24)) w.heap.size 22 (v8 nm) := (Row.new _ _ _).alloc _
  have r1 : Row (World.alloc (World.alloc w (.cells (v8 nm) 22)) (.cells (v8 seed) 24)) (w.heap.size + 1) 24 (v8 seed) := Row.newAt _ _ _ _ (by simp)
  have b1 : Below w.heap.size w (World.alloc (World.alloc w (.cells (v8 nm) 22)) (.cells (v8 seed) 24)) := ((Below.refl _ _).alloc (Nat.le_refl _) _).alloc (by simp) _
  change Code.wp _ _ _ _ ((World.alloc (World.alloc w (.cells (v8 nm) 22)) (.cells (v8 seed) 24)))
  generalize (World.alloc (World.alloc w (.cells (v8 nm) 22)) (.cells (v8 seed) 24)) = w1 at r0 r1 b1 ⊢
  have hr1 := r1.lt
  go_upto_region 2 with (first | (refine wpList_load_row (by rfl) 22 (.tmp 4) (by rfl) w.heap.size (by rfl) 22 (v8 nm) (0, 0) _ r0 Tryd.underlying22 rfl (name_info hn) ?_) | (go_at_call 29; (with_reducible refine Calls.mono (hlo _) ?_); rintro e w3 ⟨rfl, hb3⟩) | (refine store_row0 55 (.tmp 9) (.tmp 18) (by rfl) (by rfl) (by rfl) w3.heap.size (v8 H) (by rfl) (by rfl) 55 (v8 (zer 20)) (Row.new w3 55 _) (leaf_info hH) (by rw [v8_size, v8_size, hH, zer_len]) (v8_one _) ?_))
  have hs3 := hb3.size
  have p1 := ((r1.below hb3 (by omega)).alloc (.cells (v8 (zer 20)) 55)).setRowOther (g := w3.heap.size) (by omega) (v8 H)
  have p2 := (Row.new w3 55 (v8 (zer 20))).setRow (v8 H)
  have pb : Below w.heap.size w ((w3.alloc (.cells (v8 (zer 20)) 55)).setRow w3.heap.size (v8 H)) := below_setRow ((b1.trans (hb3.mono b1.size)).alloc (by omega) _) (by omega) _
  obtain ⟨gl, hgl⟩ : ∃ gl, gl = w3.heap.size := ⟨_, rfl⟩
  have hg : w.heap.size + 1 < gl := by omega
  change Code.wp _ _ _ _ ((w3.alloc (.cells (v8 (zer 20)) 55)).setRow w3.heap.size (v8 H))
  rw [← hgl] at p1 p2 pb ⊢
  generalize (w3.alloc (.cells (v8 (zer 20)) 55)).setRow gl (v8 H) = w4 at p1 p2 pb ⊢
  clear hgl r0 r1 b1 hb3 hs3 z20 hr1
  have hp2 := p2.lt
  go_upto_region 3 with (first | (refine wpList_load_row (by rfl) 55 (.tmp 9) (by rfl) gl (by rfl) 55 (v8 H) (0, 0) _ p2 Tryd.underlying55 rfl (leaf_info hH) ?_) | (refine wpList_load_row (by rfl) 24 (.tmp 6) (by rfl) (w.heap.size + 1) (by rfl) 24 (v8 seed) (0, 0) _ p1 Tryd.underlying24 rfl (id_info hs) ?_) | (go_at_call 31; (with_reducible refine Calls.mono (hsa _ (hL.below pb)) ?_); rintro e w5 ⟨rfl, hb5⟩) | (refine store_row0 24 (.tmp 10) (.tmp 21) (by rfl) (by rfl) (by rfl) w5.heap.size (v8 SA) (by rfl) (by rfl) 24 (v8 (zer 32)) (Row.new w5 24 _) (id_info hcl0) (by rw [v8_size, v8_size, hcl0, zer_len]) (v8_one _) ?_))
  have hs5 := hb5.size
  have q1 := ((p1.below hb5 (by omega)).alloc (.cells (v8 (zer 32)) 24)).setRowOther (g := w5.heap.size) (by omega) (v8 SA)
  have q2 := ((p2.below hb5 (by omega)).alloc (.cells (v8 (zer 32)) 24)).setRowOther (g := w5.heap.size) (by omega) (v8 SA)
  have q3 := (Row.new w5 24 (v8 (zer 32))).setRow (v8 SA)
  have qb : Below w.heap.size w ((w5.alloc (.cells (v8 (zer 32)) 24)).setRow w5.heap.size (v8 SA)) := below_setRow ((pb.trans (hb5.mono pb.size)).alloc (by omega) _) (by omega) _
  obtain ⟨gs, hgs⟩ : ∃ gs, gs = w5.heap.size := ⟨_, rfl⟩
  have hg2 : gl < gs := by omega
  change Code.wp _ _ _ _ ((w5.alloc (.cells (v8 (zer 32)) 24)).setRow w5.heap.size (v8 SA))
  rw [← hgs] at q1 q2 q3 qb ⊢
  generalize (w5.alloc (.cells (v8 (zer 32)) 24)).setRow gs (v8 SA) = w6 at q1 q2 q3 qb ⊢
  clear hgs p1 p2 pb hb5 hs5 hp2
  have hq3 := q3.lt
  go_upto_region 5 with (first | (go_at_call 37; (with_reducible refine Calls.mono (hfo _) ?_); rintro e w7 ⟨rfl, hb7⟩) | (refine store_row0 66 (.tmp 12) (.tmp 23) (by rfl) (by rfl) (by rfl) w7.heap.size (v8 N4) (by rfl) (by rfl) 66 (v8 (zer 4)) (Row.new w7 66 _) (a4_info hN4l) (by rw [v8_size, v8_size, hN4l, zer_len]) (v8_one _) ?_))
  have hs7 := hb7.size
  rw [show (w6.alloc (.cells (v8 (zer 4292)) 5)).heap.size = w6.heap.size + 1 by simp] at hs7
  have i1 := (((q1.alloc (.cells (v8 (zer 4292)) 5)).below hb7 (by simp; omega)).alloc (.cells (v8 (zer 4)) 66)).setRowOther (g := w7.heap.size) (by omega) (v8 N4)
  have i2 := (((q2.alloc (.cells (v8 (zer 4292)) 5)).below hb7 (by simp; omega)).alloc (.cells (v8 (zer 4)) 66)).setRowOther (g := w7.heap.size) (by omega) (v8 N4)
  have i3 := (((q3.alloc (.cells (v8 (zer 4292)) 5)).below hb7 (by simp; omega)).alloc (.cells (v8 (zer 4)) 66)).setRowOther (g := w7.heap.size) (by omega) (v8 N4)
  have i4 := (((Row.new w6 5 (v8 (zer 4292))).below hb7 (by simp)).alloc (.cells (v8 (zer 4)) 66)).setRowOther (g := w7.heap.size) (by omega) (v8 N4)
  have i5 := (Row.new w7 66 (v8 (zer 4))).setRow (v8 N4)
  have ib : Below w.heap.size w ((w7.alloc (.cells (v8 (zer 4)) 66)).setRow w7.heap.size (v8 N4)) := below_setRow (((qb.alloc qb.size (.cells (v8 (zer 4292)) 5)).trans (hb7.mono (by have := qb.size; simp; omega))).alloc (by have := qb.size; omega) _) (by have := qb.size; omega) _
  obtain ⟨gk, hgk⟩ : ∃ gk, gk = w6.heap.size := ⟨_, rfl⟩
  obtain ⟨g4, hg4⟩ : ∃ g4, g4 = w7.heap.size := ⟨_, rfl⟩
  have hg3 : gs < gk := by omega
  have hg5 : gk < g4 := by omega
  change Code.wp _ _ _ _ ((w7.alloc (.cells (v8 (zer 4)) 66)).setRow w7.heap.size (v8 N4))
  rw [← hgk] at i4 ⊢
  rw [← hg4] at i1 i2 i3 i4 i5 ib ⊢
  generalize (w7.alloc (.cells (v8 (zer 4)) 66)).setRow g4 (v8 N4) = w8 at i1 i2 i3 i4 i5 ib ⊢
  clear hgk hg4 q1 q2 q3 qb hb7 hs7 hq3 hmk z4
  go_upto_region 6 with (refine copy8 (.tmp 24) (.tmp 25) 28 28 (by rfl) (by rfl) 5 Tryd.underlying28 (by kernel_rfl) (some ⟨gk, 0, none⟩) (some ⟨g4, 0, none⟩) 4292 4292 4 4 (by rfl) (by rfl) gk 0 (zer 4292) 5 i4 N4 (by rw [hN4l]; rfl) (fun _ => rfl) i5.bytes (by rw [hN4l, zer_len]; omega) ?_)
  simp only [Act.put, List.setIfInBounds_toArray, List.set_cons_succ, List.set_cons_zero]
  rw [hN4l, show ((4 : Nat) : Int) = 4 from rfl, show spl (zer 4292) 0 N4 = N4 ++ List.replicate (4292 - 4) 0 by rw [zer_eq, spl_zero, hN4l]]
  have j1 := i1.setRowOther (g := gk) (by omega) (v8 (N4 ++ List.replicate (4292 - 4) 0))
  have j2 := i2.setRowOther (g := gk) (by omega) (v8 (N4 ++ List.replicate (4292 - 4) 0))
  have j3 := i3.setRowOther (g := gk) (by omega) (v8 (N4 ++ List.replicate (4292 - 4) 0))
  have j4 := i4.setRow (v8 (N4 ++ List.replicate (4292 - 4) 0))
  have jb := below_setRow (g := gk) ib (by omega) (v8 (N4 ++ List.replicate (4292 - 4) 0))
  generalize w8.setRow gk (v8 (N4 ++ List.replicate (4292 - 4) 0)) = w9 at j1 j2 j3 j4 jb ⊢
  clear i1 i2 i3 i4 i5 ib
  refine wp_region_quiet_tail 3 (by kernel_rfl) (by kernel_rfl) ?_
  simp only [List.take_succ_cons, List.take_zero, List.drop_succ_cons, List.drop_zero]
  repeat (go_big_quiet_step (fail))
  refine wpQuiet_nil ?_
  rintro _ ⟨nq, rfl⟩
  refine copy8 (w := w9.drewN nq) (.tmp 28) (.tmp 29) 28 28 (by rfl) (by rfl) 5 Tryd.underlying28 (by kernel_rfl) (some ⟨gk, 4, none⟩) (some ⟨gs, 0, none⟩) 4288 4288 32 32 (by rfl) (by rfl) (gk) (4) (N4 ++ List.replicate (4292 - 4) 0) 5 (j4.drewN nq) SA (by rw [hcl0]; rfl) (fun _ => rfl) ((j3.drewN nq).bytes) (by rw [List.length_append, hN4l, hcl0]; simp) ?_
  simp only [Act.put, List.setIfInBounds_toArray, List.set_cons_succ, List.set_cons_zero]
  rw [hcl0, show ((32 : Nat) : Int) = 32 from rfl, show spl (N4 ++ List.replicate (4292 - 4) 0) 4 SA = N4 ++ SA ++ List.replicate (4292 - 36) 0 by have := spl_mid N4 SA (4292 - 4); rw [hN4l, hcl0] at this; exact this]
  have u1 := (j1.drewN nq).setRowOther (g := gk) (by omega) (v8 (N4 ++ SA ++ List.replicate (4292 - 36) 0))
  have u2 := (j2.drewN nq).setRowOther (g := gk) (by omega) (v8 (N4 ++ SA ++ List.replicate (4292 - 36) 0))
  have u3 := (j3.drewN nq).setRowOther (g := gk) (by omega) (v8 (N4 ++ SA ++ List.replicate (4292 - 36) 0))
  have u4 := (j4.drewN nq).setRow (v8 (N4 ++ SA ++ List.replicate (4292 - 36) 0))
  have ub := below_setRow (g := gk) (below_drewN jb nq) (by omega) (v8 (N4 ++ SA ++ List.replicate (4292 - 36) 0))
  generalize (w9.drewN nq).setRow gk (v8 (N4 ++ SA ++ List.replicate (4292 - 36) 0)) = w10 at u1 u2 u3 u4 ub ⊢
  clear j1 j2 j3 j4 jb
  generalize N4 ++ SA = X0 at *
  have hu4 := u4.lt
  have htx' := htx w10 (hL.below ub) (hby.below ub)
  go_wp2_with (first | (refine wpList_load_row (by rfl) 55 (.tmp 9) (by rfl) gl (by rfl) 55 (v8 H) (0, 0) _ u2 Tryd.underlying55 rfl (leaf_info hH) ?_) | (refine wpList_load_row (by rfl) 24 (.tmp 10) (by rfl) gs (by rfl) 24 (v8 SA) (0, 0) _ u3 Tryd.underlying24 rfl (id_info hcl0) ?_) | (go_at_call 39; (with_reducible refine Calls.mono htx' ?_); rintro e w11 ⟨rfl, hb11⟩) | (go_at_call 38; (with_reducible refine Calls.mono (hdg _) ?_); rintro e w12 ⟨rfl, hb12⟩))
  have hs11 := hb11.size
  have hbb : Below w10.heap.size w10 w12 := hb11.trans (hb12.mono hs11)
  have a1 := u1.below hbb (by omega)
  have a2 := u2.below hbb (by omega)
  have a4 := u4.below hbb (by omega)
  have ab := ub.trans (hbb.mono ub.size)
  clear u1 u2 u3 u4 ub hb11 hb12 hs11 hbb htx' htx hdg hsa hlo hfo
  go_loopw [36] (fun v wr => ∃ k : Nat, k ≤ 133 ∧ v = .int .i64 (k : Int) ∧ Row wr (w.heap.size + 1) 24 (v8 seed) ∧ Row wr gl 55 (v8 H) ∧ Row wr gk 5 (v8 (X0 ++ C k ++ List.replicate (4256 - 32 * k) 0)) ∧ Below w.heap.size w wr) (fun v _ => 133 - (intOf v).toNat)
  case atStart => exact ⟨0, by omega, rfl, a1, a2, by simpa [hC0] using a4, ab⟩
  case round =>
    clear a1 a2 a4 ab
    obtain ⟨k, hk, rfl, z1, z3, z4, zb⟩ := hrel
    have hz4 := z4.lt
    by_cases hlt : k < 133
    · have hCl := hcl'.out k
      have hYk := hzl k
      have hXk := hxl k
      have hix := hidx k hlt
      have hXC : (X0 ++ C k).length = 36 + 32 * k := by rw [List.length_append, hX0, hCl]
      have hnx : Hid (spl (X0 ++ C k ++ List.replicate (4256 - 32 * k) 0) (36 + 32 * k) (Y k) = X0 ++ C (k + 1) ++ List.replicate (4256 - 32 * (k + 1)) 0) := by
        have := spl_mid (X0 ++ C k) (Y k) (4256 - 32 * k)
        rw [hXC, hYk] at this
        show _ = _
        rw [this, hCs'.out k, ← List.append_assoc, show 4256 - 32 * k - 32 = 4256 - 32 * (k + 1) by omega]
      have hAl : (X0 ++ C k ++ List.replicate (4256 - 32 * k) 0).length = 4292 := by rw [List.length_append, hXC]; simp; omega
      generalize X0 ++ C k ++ List.replicate (4256 - 32 * k) 0 = A at *
      obtain ⟨B, hB⟩ : ∃ B, B = X0 ++ C (k + 1) ++ List.replicate (4256 - 32 * (k + 1)) 0 := ⟨_, rfl⟩
      rw [← hB] at hnx
      have hB' : Hid (B = X0 ++ C (k + 1) ++ List.replicate (4256 - 32 * (k + 1)) 0) := hB
      clear hB hXC hCl
      go_upto_region 10 with fail
      refine region_alloc 8 24 (v8 (zer 32)) 15 (by kernel_rfl) (by kernel_rfl) (by rfl) (by kernel_rfl) ?hal ?hh
      case hal =>
        intro a w o ho
        cases ho
        kernel_rfl
      case hh =>
        apply Exists.intro
        refine ⟨fun ι _ W hb hc => ?_, fun b w2 hb2 hbel2 hrow => ?_⟩
        · have t1 : ∀ i, Row (W i) (w.heap.size + 1) 24 (v8 seed) := fun i => z1.below (hb i) z1.lt
          have t3 : ∀ i, Row (W i) gl 55 (v8 H) := fun i => z3.below (hb i) z3.lt
          have tL : ∀ i, Laid (W i) := fun i => hL.below (zb.trans ((hb i).mono zb.size))
          simp only [List.take_succ_cons, List.take_zero]
          refine q_load_row 55 (.tmp 9) (by rfl) (by rfl) (gl) (by rfl) 55 _ _ t3 Tryd.underlying55 rfl (leaf_info hH) ?_
          simp only [Act.put, List.setIfInBounds_toArray, List.set_cons_succ, List.set_cons_zero]
          go_big_quiet_step (fail)
          go_big_quiet_step (fail)
          refine q_load_row 55 (.tmp 9) (by rfl) (by rfl) (gl) (by rfl) 55 _ _ t3 Tryd.underlying55 rfl (leaf_info hH) ?_
          simp only [Act.put, List.setIfInBounds_toArray, List.set_cons_succ, List.set_cons_zero]
          go_big_quiet_step (fail)
          refine q_load_row 24 (.tmp 6) (by rfl) (by rfl) (w.heap.size + 1) (by rfl) 24 _ _ t1 Tryd.underlying24 rfl (id_info hs) ?_
          simp only [Act.put, List.setIfInBounds_toArray, List.set_cons_succ, List.set_cons_zero]
          go_big_quiet_step ((go_at_call 31; exact (hx k _ (tL _) hlt).mono (fun e w' ⟨he, hw⟩ => ⟨he, hc _ _ hw⟩)))
          go_big_quiet_step ((go_at_call 30; exact (hz k _ (tL _) hlt).mono (fun e w' ⟨he, hw⟩ => ⟨he, hc _ _ hw⟩)))
          exact wpQuiet_nil rfl
        · simp only [List.drop_succ_cons, List.drop_zero, Act.put, List.setIfInBounds_toArray, List.set_cons_succ, List.set_cons_zero]
          refine store_row0 24 (.tmp 15) (.tmp 47) (by rfl) (by rfl) (by rfl) b (v8 (Y k)) (by rfl) (by rfl) 24 _ hrow (id_info hYk) (by rw [v8_size, v8_size, hYk, zer_len]) (v8_one _) ?_
          have y1 := (z1.below hbel2 (by omega)).setRowOther (g := b) (by omega) (v8 (Y k))
          have y3 := (z3.below hbel2 (by omega)).setRowOther (g := b) (by omega) (v8 (Y k))
          have y4 := (z4.below hbel2 (by omega)).setRowOther (g := b) (by omega) (v8 (Y k))
          have y5 := hrow.setRow (v8 (Y k))
          have yb := below_setRow (g := b) (zb.trans (hbel2.mono zb.size)) (by omega) (v8 (Y k))
          generalize w2.setRow b (v8 (Y k)) = w3 at y1 y3 y4 y5 yb ⊢
          have hbg : gk < b := by omega
          clear z1 z3 z4 zb hbel2 hrow
          have k1 : (36 : Int) + (k : Int) * 32 ≤ 4292 := by omega
          have k2 : (0 : Int) ≤ 36 + (k : Int) * 32 := by omega
          have k3 : ¬ 4292 = 36 + k * 32 := by omega
          go_upto_region 11 with fail
          refine wp_region_quiet_tail 6 (by kernel_rfl) (by kernel_rfl) ?_
          simp only [List.take_succ_cons, List.take_zero, List.drop_succ_cons, List.drop_zero]
          repeat (go_big_quiet_step (fail))
          refine wpQuiet_nil ?_
          rintro _ ⟨nq, rfl⟩
          refine copy8 (w := w3.drewN nq) (.tmp 52) (.tmp 53) 28 28 (by rfl) (by rfl) 5 Tryd.underlying28 (by kernel_rfl) (some ⟨gk, 36 + k * 32, none⟩) (some ⟨b, 0, none⟩) (4292 - (36 + k * 32)) (4292 - (36 + k * 32)) 32 32 (by rfl) (by rfl) (gk) (36 + k * 32) A 5 (y4.drewN nq) (Y k) (by rw [hYk]; omega) (fun _ => rfl) ((y5.drewN nq).bytes) (by rw [hYk, hAl]; omega) ?_
          simp only [Act.put, List.setIfInBounds_toArray, List.set_cons_succ, List.set_cons_zero]
          rw [show spl A (36 + k * 32) (Y k) = B by rw [show 36 + k * 32 = 36 + 32 * k by omega]; exact hnx.out, hYk]
          have x1 := (y1.drewN nq).setRowOther (g := gk) (by omega) (v8 B)
          have x3 := (y3.drewN nq).setRowOther (g := gk) (by omega) (v8 B)
          have x4 := (y4.drewN nq).setRow (v8 B)
          have xb := below_setRow (g := gk) (below_drewN yb nq) (by omega) (v8 B)
          generalize (w3.drewN nq).setRow gk (v8 B) = w4 at x1 x3 x4 xb ⊢
          clear y1 y3 y4 y5 yb
          go_wp2
          go_roundw
          case rel => exact ⟨k + 1, by omega, by go_num, x1, x3, by rw [← hB'.out]; exact x4, xb⟩
          case measure => simp [intOf]; omega
    · obtain rfl : k = 133 := by omega
      have z4' : Row wr gk 5 (v8 SG) := by rw [hsig'.out]; simpa using z4
      clear z4
      go_wp2
      go_ret
      exact ⟨gk, rfl, by omega, z4', zb⟩
end

section
open Go Go.RowKit

/-- All blocks but those of l are as they were. -/
structure Fr (l : List Nat) (w w' : World) : Prop where
  os : w'.os = w.os
  tape : w'.tape = w.tape
  output : w'.output = w.output
  size : w.heap.size ≤ w'.heap.size
  block : ∀ k, k < w.heap.size → k ∉ l → w'.heap[k]? = w.heap[k]?
theorem Fr.of_below {l : List Nat} {a b : World} (h : Below a.heap.size a b) : Fr l a b := ⟨h.os, h.tape, h.output, h.size, fun k hk _ => h.block k hk⟩
theorem Fr.trans {l : List Nat} {a b c : World} (h : Fr l a b) (k : Fr l b c) : Fr l a c :=
  ⟨k.os.trans h.os, k.tape.trans h.tape, k.output.trans h.output, Nat.le_trans h.size k.size, fun i hi hn => (k.block i (Nat.lt_of_lt_of_le hi h.size) hn).trans (h.block i hi hn)⟩
theorem Fr.below {l : List Nat} {a b : World} {B : Nat} (h : Fr l a b) (hl : ∀ k ∈ l, B ≤ k) (hB : B ≤ a.heap.size) : Below B a b :=
  ⟨h.os, h.tape, h.output, h.size, fun k hk => h.block k (by omega) (fun hm => by have := hl k hm; omega)⟩
theorem Fr.setRow {l : List Nat} {a b : World} (h : Fr l a b) (g : Nat) (hg : g ∈ l) (cs : Array Value) : Fr l a (b.setRow g cs) :=
  h.trans ⟨rfl, rfl, rfl, by simp [World.setRow], fun k _ hn => setRow_other b g k cs (fun e => hn (by rw [← e] at hg; exact hg))⟩
theorem Row.fr {w w' : World} {b : Nat} {t : TypeId} {vs : Array Value} {l : List Nat} (h : Row w b t vs) (hf : Fr l w w') (hb : b ∉ l) : Row w' b t vs := by
  unfold Row; rw [hf.block b h.lt hb]; exact h
theorem own8_row {w : World} {b n : Nat} {bs : List Int} (h : Row w b 5 (v8 bs)) (hn : bs.length = n) (hl : n ≤ maxLen) : Own8 w b 5 (.slice (some ⟨b, 0, none⟩) n n) bs := by
  subst hn
  unfold Own8 World.ownsRow
  refine ⟨by simp, .inr ⟨b, bs.length, v8 bs, rfl, Nat.le_refl _, h, Nat.le_refl _, hl, by simp [v8_size], by simp [v8, List.take_of_length_le]⟩⟩

set_option maxRecDepth 20000 in
set_option maxHeartbeats 1000000 in
theorem putNumber_any (l : List Int) (n : Int) (g off len cap : Nat) (t : TypeId) (w : World) (hr : Row w g t (v8 l)) (hfit : off + 4 ≤ l.length) (hlen : 4 ≤ len) :
    Calls Tryd.prog 51 #[.slice (some ⟨g, off, none⟩) len cap, .int .i64 n] w fun e w' => e = .returned (.tuple #[]) ∧ Row w' g t (v8 (spl l off (n4 n))) ∧ Fr [g] w w' := by
  have hi4 : (Tryd.prog.info? 66).map (·.size) = some (v8 (n4 n)).size := by rw [v8_size]; kernel_rfl
  have hg := hr.lt
  go_enter Tryd.func51, Tryd.ntmps51
  go_upto_region 1 with (first | (go_at_call 67; (with_reducible refine Calls.mono (fourOf_any n _) ?_); rintro e w3 ⟨rfl, hb3⟩) | (refine store_row0 66 (.tmp 4) (.tmp 6) (by rfl) (by rfl) (by rfl) w3.heap.size (v8 (n4 n)) (by rfl) (by rfl) 66 (v8 (List.replicate 4 0)) (Row.new w3 66 _) hi4 (by simp [v8_size, n4_len]) (v8_one _) ?_))
  have hs3 := hb3.size
  have s1 := ((hr.below hb3 hg).alloc (.cells (v8 (List.replicate 4 0)) 66)).setRowOther (g := w3.heap.size) (by omega) (v8 (n4 n))
  have s4 := (Row.new w3 66 (v8 (List.replicate 4 0))).setRow (v8 (n4 n))
  have sb : Below w.heap.size w ((w3.alloc (.cells (v8 (List.replicate 4 0)) 66)).setRow w3.heap.size (v8 (n4 n))) := below_setRow (hb3.alloc hs3 _) hs3 _
  obtain ⟨g4, hg4⟩ : ∃ g4, g4 = w3.heap.size := ⟨_, rfl⟩
  change Code.wp _ _ _ _ ((w3.alloc (.cells (v8 (List.replicate 4 0)) 66)).setRow w3.heap.size (v8 (n4 n)))
  rw [← hg4] at s1 s4 sb ⊢
  generalize (w3.alloc (.cells (v8 (List.replicate 4 0)) 66)).setRow g4 (v8 (n4 n)) = w4 at s1 s4 sb ⊢
  clear hr hb3 hg4 hs3
  go_wp2_with (refine copy8 (w := w4) (.tmp 7) (.tmp 8) 28 28 (by rfl) (by rfl) 5 Tryd.underlying28 (by kernel_rfl) (some ⟨g, off, none⟩) (some ⟨g4, 0, none⟩) len cap 4 4 (by rfl) (by rfl) g off l t s1 (n4 n) (by rw [n4_len]; omega) (fun _ => rfl) s4.bytes (by rw [n4_len]; exact hfit) ?_)
  go_end0
  exact ⟨rfl, s1.setRow _, (Fr.of_below sb).setRow g (by simp) _⟩

/-- A key's cells. -/
def kc (nm : List Int) (h : Int) (top : List Int) : Array Value := v8 nm ++ #[.int .i64 h] ++ v8 top
theorem kc_size {nm top : List Int} {h : Int} (hn : nm.length = 16) (ht : top.length = 32) : (kc nm h top).size = 49 := by simp [kc, v8_size, hn, ht]
theorem kc_name {w : World} {g : Nat} {t : TypeId} {nm top : List Int} {h : Int} (hr : Row w g t (kc nm h top)) : Bytes w (some ⟨g, 0, none⟩) nm := fun _ =>
  ⟨g, 0, rfl, fun j hj => by rw [Nat.zero_add, hr.cell, kc, Array.getElem?_append_left (by simp [v8_size]; omega), Array.getElem?_append_left (by rw [v8_size]; exact hj)]; exact v8_at hj⟩
theorem kc_height {w : World} {g : Nat} {t : TypeId} {nm top : List Int} {h : Int} (hr : Row w g t (kc nm h top)) (hn : nm.length = 16) : w.cell? ⟨g, 16, none⟩ = some (.int .i64 h) := by
  rw [hr.cell, kc, Array.getElem?_append_left (by simp [v8_size, hn]), Array.getElem?_append_right (by simp [v8_size, hn])]
  simp [v8_size, hn]
theorem kc_top {w : World} {g : Nat} {t : TypeId} {nm top : List Int} {h : Int} (hr : Row w g t (kc nm h top)) (hn : nm.length = 16) : Bytes w (some ⟨g, 17, none⟩) top := fun _ =>
  ⟨g, 17, rfl, fun j hj => by
    rw [hr.cell, kc, Array.getElem?_append_right (by simp [v8_size, hn])]
    simp only [Array.size_append, v8_size, hn, List.size_toArray, List.length_cons, List.length_nil]
    rw [show 17 + j - (16 + (0 + 1)) = j by omega]; exact v8_at hj⟩
/-- A public key's bytes. -/
def keyL (h : Int) (nm top : List Int) : List Int := n4 h ++ n4 2 ++ nm ++ top
theorem keyL_len {h : Int} {nm top : List Int} (hn : nm.length = 16) (ht : top.length = 32) : (keyL h nm top).length = 56 := by simp [keyL, n4_len, hn, ht]

set_option maxRecDepth 20000 in
set_option maxHeartbeats 1000000 in
theorem kbytes_any (nm top : List Int) (h : Int) (w : World) (hn : nm.length = 16) (ht : top.length = 32) :
    Calls Tryd.prog 46 #[.agg (kc nm h top)] w fun e w' => ∃ sp cap, e = .returned (.slice sp 56 cap) ∧ Own8 w' w.heap.size 5 (.slice sp 56 cap) (keyL h nm top) ∧ Below w.heap.size w w' := by
  have hmk : ∀ wx, (Instr.makeSlice 28 (.int .i64 56) (.int .i64 56)).run Tryd.prog wx = .ok (.slice (some ⟨wx.heap.size, 0, none⟩) 56 56) (wx.alloc (.cells (v8 (zer 56)) 5)) := fun wx => make8 56 (by decide) wx
  go_enter Tryd.func46, Tryd.ntmps46
  go_upto_region 2 with fail
  have r0 : Row (World.alloc (World.alloc w (.cells (kc nm h top) 80)) (.cells (v8 (zer 56)) 5)) w.heap.size 80 (kc nm h top) := (Row.new _ _ _).alloc _
  have r1 : Row (World.alloc (World.alloc w (.cells (kc nm h top) 80)) (.cells (v8 (zer 56)) 5)) (w.heap.size + 1) 5 (v8 (zer 56)) := Row.newAt _ _ _ _ (by simp)
  have b1 : Below w.heap.size w (World.alloc (World.alloc w (.cells (kc nm h top) 80)) (.cells (v8 (zer 56)) 5)) := ((Below.refl _ _).alloc (Nat.le_refl _) _).alloc (by simp) _
  change Code.wp _ _ _ _ ((World.alloc (World.alloc w (.cells (kc nm h top) 80)) (.cells (v8 (zer 56)) 5)))
  generalize (World.alloc (World.alloc w (.cells (kc nm h top) 80)) (.cells (v8 (zer 56)) 5)) = w1 at r0 r1 b1 ⊢
  clear hmk
  have k0 := kc_height r0 hn
  have hp1 := putNumber_any (zer 56) h (w.heap.size + 1) 0 56 56 5 w1 r1 (by rw [zer_len]; omega) (by omega)
  have e1 : spl (zer 56) 0 (n4 h) = n4 h ++ List.replicate 52 0 := by unfold zer; rw [spl_zero]; rfl
  rw [e1] at hp1
  have e2 : spl (n4 h ++ List.replicate 52 0) 4 (n4 2) = n4 h ++ n4 2 ++ List.replicate 48 0 := by
    have := spl_mid (n4 h) (n4 2) 52
    rwa [n4_len] at this
  go_upto_region 4 with (first | (go_at_call_of 51 (Value.int IntKind.i64 h); (with_reducible refine Calls.mono hp1 ?_); rintro e w2 ⟨rfl, s1, f2⟩; have s0 := r0.fr f2 (by simp); have hp2 := putNumber_any (n4 h ++ List.replicate 52 0) 2 (w.heap.size + 1) 4 52 52 5 w2 s1 (by simp [n4_len]) (by omega); rw [e2] at hp2) | (go_at_call_of 51 (Value.int IntKind.i64 2); (with_reducible refine Calls.mono hp2 ?_); rintro e w3 ⟨rfl, t1, f3⟩; have t0 := s0.fr f3 (by simp)))
  have tb : Below w.heap.size w w3 := (b1.trans (f2.below (by simp) b1.size)).trans (f3.below (by simp) (Nat.le_trans b1.size f2.size))
  clear r0 r1 b1 f2 f3 s0 s1 hp1 hp2 k0 e1 e2
  have e8 : (n4 h ++ n4 2).length = 8 := rfl
  have e24 : (n4 h ++ n4 2 ++ nm).length = 24 := by rw [List.length_append, hn]; rfl
  refine wp_region_quiet_tail 4 (by kernel_rfl) (by kernel_rfl) ?_
  simp only [List.take_succ_cons, List.take_zero, List.drop_succ_cons, List.drop_zero]
  repeat (go_big_quiet_step (fail))
  refine wpQuiet_nil ?_
  rintro _ ⟨nq, rfl⟩
  refine copy8 (w := w3.drewN nq) (.tmp 13) (.tmp 15) 28 28 (by rfl) (by rfl) 5 Tryd.underlying28 (by kernel_rfl) (some ⟨w.heap.size + 1, 8, none⟩) (some ⟨w.heap.size, 0, none⟩) 48 48 16 16 (by rfl) (by rfl) (w.heap.size + 1) (8) (n4 h ++ n4 2 ++ List.replicate 48 0) 5 (t1.drewN nq) nm (by rw [hn]; rfl) (fun _ => rfl) (kc_name (t0.drewN nq)) (by rw [List.length_append, e8, hn]; simp) ?_
  simp only [Act.put, List.setIfInBounds_toArray, List.set_cons_succ, List.set_cons_zero]
  have hsp : spl (n4 h ++ n4 2 ++ List.replicate 48 0) 8 nm = n4 h ++ n4 2 ++ nm ++ List.replicate 32 0 := by
    have := spl_mid (n4 h ++ n4 2) nm 48
    rwa [e8, hn] at this
  rw [hsp]
  have u0 := (t0.drewN nq).setRowOther (g := w.heap.size + 1) (by omega) (v8 (n4 h ++ n4 2 ++ nm ++ List.replicate 32 0))
  have u1 := (t1.drewN nq).setRow (v8 (n4 h ++ n4 2 ++ nm ++ List.replicate 32 0))
  have ub := below_setRow (g := w.heap.size + 1) (below_drewN tb nq) (by omega) (v8 (n4 h ++ n4 2 ++ nm ++ List.replicate 32 0))
  generalize (w3.drewN nq).setRow (w.heap.size + 1) (v8 (n4 h ++ n4 2 ++ nm ++ List.replicate 32 0)) = w4 at u0 u1 ub ⊢
  clear t0 t1 tb hsp
  go_upto_region 5 with fail
  refine wp_region_quiet_tail 4 (by kernel_rfl) (by kernel_rfl) ?_
  simp only [List.take_succ_cons, List.take_zero, List.drop_succ_cons, List.drop_zero]
  repeat (go_big_quiet_step (fail))
  refine wpQuiet_nil ?_
  rintro _ ⟨nq, rfl⟩
  refine copy8 (w := w4.drewN nq) (.tmp 18) (.tmp 20) 28 28 (by rfl) (by rfl) 5 Tryd.underlying28 (by kernel_rfl) (some ⟨w.heap.size + 1, 24, none⟩) (some ⟨w.heap.size, 17, none⟩) 32 32 32 32 (by rfl) (by rfl) (w.heap.size + 1) (24) (n4 h ++ n4 2 ++ nm ++ List.replicate 32 0) 5 (u1.drewN nq) top (by rw [ht]; rfl) (fun _ => rfl) (kc_top (u0.drewN nq) hn) (by rw [List.length_append, e24, ht]; simp) ?_
  simp only [Act.put, List.setIfInBounds_toArray, List.set_cons_succ, List.set_cons_zero]
  have hsp : spl (n4 h ++ n4 2 ++ nm ++ List.replicate 32 0) 24 top = keyL h nm top := by
    have := spl_end (n4 h ++ n4 2 ++ nm) top 32 ht.symm
    rwa [e24] at this
  rw [hsp]
  have v1 := (u1.drewN nq).setRow (v8 (keyL h nm top))
  have vb := below_setRow (g := w.heap.size + 1) (below_drewN ub nq) (by omega) (v8 (keyL h nm top))
  generalize (w4.drewN nq).setRow (w.heap.size + 1) (v8 (keyL h nm top)) = w5 at v1 vb ⊢
  clear u0 u1 ub hsp
  go_wp2
  go_ret
  exact ⟨_, _, rfl, (own8_row v1 (keyL_len hn ht) (by unfold maxLen; omega)).mono (by omega), vb⟩

theorem list_map (l : List Int) (n : Nat) (h : l.length = n) : l = (List.range n).map (gi l) := by
  subst h
  apply List.ext_getElem?
  intro i
  by_cases hi : i < l.length
  · simp [gi, hi]
  · rw [List.getElem?_eq_none (by omega), List.getElem?_eq_none (by simp; omega)]
theorem built_key (nm top : List Int) (h : Int) (hn : nm.length = 16) (ht : top.length = 32) : Tryd.prog.built 80 [(0, .agg (v8 nm)), (1, .int .i64 h), (2, .agg (v8 top))] = some (kc nm h top) := by
  rw [list_map nm 16 hn, list_map top 32 ht]
  generalize gi nm = f
  generalize gi top = f2
  kernel_rfl
end

section
open Go Go.RowKit

theorem exec_index_sub {P : Program} {op : Oper} {a : Act} {w : World} (t e : TypeId) (n m : Nat) (l cs : List Int) (x : Operand) (i : Nat) (d : TypeDesc) (hop : op.op = .index t x (.const (.int .i64 (i : Int)))) (hx : a.eval x = .agg (v8 l)) (h : P.underlying t = some (.array n e)) (he : P.underlying e = some d) (hd : (match d with | .struct _ | .array _ _ => true | _ => false) = true) (hs : (P.info? e).map (·.size) = some m)
    (hi : i < n) (hcs : cs = (l.drop (m * i)).take m) : (execOp a.eval op).run P w = .ok (.value (.agg (v8 cs))) w := by
  have hr := run_index_sub (P := P) (w := w) t e n m l cs .i64 i d h he hd hs hi hcs
  unfold execOp
  simp only [hop, hx]
  simp [Act.eval, hr, Result.andThen]
theorem exec_build {P : Program} {op : Oper} {a : Act} {w : World} (t : TypeId) (parts : Array (Nat × Operand)) (vs : List (Nat × Value)) (cells : Array Value) (hop : op.op = .build t parts) (hv : (parts.map fun (i, x) => (i, a.eval x)) = vs.toArray) (h : P.built t vs = some cells) : (execOp a.eval op).run P w = .ok (.value (.agg cells)) w := by
  have hr := run_build (P := P) w t vs.toArray cells (by simpa using h)
  unfold execOp
  simp only [hop, hv]
  simp [hr, Result.andThen]
set_option maxRecDepth 20000 in
set_option maxHeartbeats 1000000 in
theorem lPublic_bad (nm seed : List Int) (h : Int) (w0 : World) (hh : ¬ (1 ≤ h ∧ h ≤ 5)) :
    Calls Tryd.prog 22 #[.agg (v8 nm), .agg (v8 seed), .int .i64 h] w0 fun e w' => e = .returned (.tuple #[.slice none 0 0, .int .i64 1]) ∧ Below w0.heap.size w0 w' := by
  have hih := fun wx => isHeight_any h wx
  rw [decide_eq_false hh] at hih
  go_enter Tryd.func22, Tryd.ntmps22
  go_upto_region 1 with fail
  have b1 : Below w0.heap.size w0 (World.alloc (World.alloc w0 (.cells (v8 nm) 22)) (.cells (v8 seed) 24)) := ((Below.refl _ _).alloc (Nat.le_refl _) _).alloc (by simp) _
  change Code.wp _ _ _ _ ((World.alloc (World.alloc w0 (.cells (v8 nm) 22)) (.cells (v8 seed) 24)))
  generalize (World.alloc (World.alloc w0 (.cells (v8 nm) 22)) (.cells (v8 seed) 24)) = w1 at b1 ⊢
  go_wp2_with (go_at_call 44; (with_reducible refine Calls.mono (hih _) ?_); rintro e w2 ⟨rfl, hw⟩; obtain rfl := hw.symm; clear hw)
  go_ret2
  exact ⟨rfl, b1⟩
set_option maxRecDepth 20000 in
set_option maxHeartbeats 1000000 in
theorem lPublic_any (S : List Int → List Int) (hS : Hash S) (nm seed : List Int) (h : Nat) (w0 : World) (hL : Laid w0) (hn : nm.length = 16) (hs : seed.length = 32) (h1 : 1 ≤ h) (h5 : h ≤ 5) :
    Calls Tryd.prog 22 #[.agg (v8 nm), .agg (v8 seed), .int .i64 (h : Int)] w0 fun e w' => ∃ sp cap, e = .returned (.tuple #[.slice sp 56 cap, .int .i64 0]) ∧ Own8 w' w0.heap.size 5 (.slice sp 56 cap) (keyL h nm (nodeN S nm seed (2 ^ h) 1)) ∧ Below w0.heap.size w0 w' := by
  have hih := fun wx => isHeight_any h wx
  rw [decide_eq_true (show 1 ≤ (h : Int) ∧ (h : Int) ≤ 5 by omega)] at hih
  have hgr := fun wx hl => grow_any S hS nm seed h wx hl hn hs h1 h5
  have hNl := nodeN_len (fun l => hS.len l) nm seed (2 ^ h)
  have h2 : 2 ≤ 2 ^ h := by
    rcases (by omega : h = 1 ∨ h = 2 ∨ h = 3 ∨ h = 4 ∨ h = 5) with rfl | rfl | rfl | rfl | rfl <;> decide
  have hTT : ((treeL (nodeN S nm seed (2 ^ h)) (2 ^ h)).drop (32 * 1)).take 32 = nodeN S nm seed (2 ^ h) 1 := by
    have := treeL_cut hNl (2 ^ h) 1 (Nat.le_refl _) (by omega) (by decide)
    unfold cutN at this
    exact this
  have hTl := hNl 1
  generalize treeL (nodeN S nm seed (2 ^ h)) (2 ^ h) = T at *
  generalize nodeN S nm seed (2 ^ h) 1 = TOP at *
  clear hNl h2
  have hbk := built_key nm TOP h hn hTl
  have hi32 : (Tryd.prog.info? 24).map (·.size) = some 32 := by kernel_rfl
  go_enter Tryd.func22, Tryd.ntmps22
  go_upto_region 1 with fail
  have r0 : Row (World.alloc (World.alloc w0 (.cells (v8 nm) 22)) (.cells (v8 seed) 24)) w0.heap.size 22 (v8 nm) := (Row.new _ _ _).alloc _
  have r1 : Row (World.alloc (World.alloc w0 (.cells (v8 nm) 22)) (.cells (v8 seed) 24)) (w0.heap.size + 1) 24 (v8 seed) := Row.newAt _ _ _ _ (by simp)
  have b1 : Below w0.heap.size w0 (World.alloc (World.alloc w0 (.cells (v8 nm) 22)) (.cells (v8 seed) 24)) := ((Below.refl _ _).alloc (Nat.le_refl _) _).alloc (by simp) _
  change Code.wp _ _ _ _ ((World.alloc (World.alloc w0 (.cells (v8 nm) 22)) (.cells (v8 seed) 24)))
  generalize (World.alloc (World.alloc w0 (.cells (v8 nm) 22)) (.cells (v8 seed) 24)) = w1 at r0 r1 b1 ⊢
  go_wp2_with (go_at_call 44; (with_reducible refine Calls.mono (hih _) ?_); rintro e w2 ⟨rfl, hw⟩; obtain rfl := hw.symm; clear hw)
  have hr0 := r0.lt
  have hr1 := r1.lt
  have hbs := b1.size
  obtain ⟨B, hB⟩ : ∃ B, B = w1.heap.size := ⟨_, rfl⟩
  have hsB : ∀ {w : World}, Below B w1 w → B ≤ w.heap.size := fun h => by have := h.size; omega
  refine region_invFA  (by kernel_rfl) (by kernel_rfl) (fun a0 listed a w => ∃ s6 s7 s11 s12 s13 s14 s15 s16 s17 s18 s19, a = (Act.put (Act.put (Act.put (Act.put (Act.put (Act.put (Act.put (Act.put (Act.put (Act.put (Act.put a0 (some 6) s6) (some 7) s7) (some 11) s11) (some 12) s12) (some 13) s13) (some 14) s14) (some 15) s15) (some 16) s16) (some 17) s17) (some 18) s18) (some 19) s19) ∧ Below B w1 w ∧ (listed.getD 0 false = true → s11 = .agg (v8 nm)) ∧ (listed.getD 1 false = true → s12 = .int .i64 (h : Int)) ∧ (listed.getD 2 false = true → s13 = .agg (v8 nm)) ∧ (listed.getD 3 false = true → s14 = .agg (v8 seed)) ∧ (listed.getD 4 false = true → s15 = .int .i64 (h : Int)) ∧ (listed.getD 5 false = true → s16 = .agg (v8 T)) ∧ (listed.getD 6 false = true → s17 = .agg (v8 TOP)) ∧ (listed.getD 7 false = true → s18 = .agg (kc nm (h : Int) TOP)) ∧ (listed.getD 8 false = true → listed.getD 9 false = false → OwnS w B s19 56 (keyL (h : Int) nm TOP)) ∧ (listed.getD 9 false = true → OwnS w B s6 56 (keyL (h : Int) nm TOP)) ∧ (listed.getD 10 false = true → s7 = .int .i64 0)) ?_ ?_ ?_
  all_goals simp only [Act.put, List.setIfInBounds_toArray, List.set_cons_succ, List.set_cons_zero]
  · exact ⟨_, _, _, _, _, _, _, _, _, _, _, rfl, (Below.refl B _).drew, (fun h => absurd h (by rw [getD_replicate_false]; decide)), (fun h => absurd h (by rw [getD_replicate_false]; decide)), (fun h => absurd h (by rw [getD_replicate_false]; decide)), (fun h => absurd h (by rw [getD_replicate_false]; decide)), (fun h => absurd h (by rw [getD_replicate_false]; decide)), (fun h => absurd h (by rw [getD_replicate_false]; decide)), (fun h => absurd h (by rw [getD_replicate_false]; decide)), (fun h => absurd h (by rw [getD_replicate_false]; decide)), (fun h => absurd h (by rw [getD_replicate_false]; decide)), (fun h => absurd h (by rw [getD_replicate_false]; decide)), (fun h => absurd h (by rw [getD_replicate_false]; decide))⟩
  · intro listed a w i o hls hJ hin ho hi hall hcl
    obtain ⟨s6, s7, s11, s12, s13, s14, s15, s16, s17, s18, s19, rfl, hbW, c0, c1, c2, c3, c4, c5, c6, c7, c8, c9, c10⟩ := hJ
    replace hin : i < 11 := hin
    rcases (by omega : i = 0 ∨ i = 1 ∨ i = 2 ∨ i = 3 ∨ i = 4 ∨ i = 5 ∨ i = 6 ∨ i = 7 ∨ i = 8 ∨ i = 9 ∨ i = 10) with rfl | rfl | rfl | rfl | rfl | rfl | rfl | rfl | rfl | rfl | rfl
    · obtain rfl := Option.some.inj ho
      have hsz : 0 < listed.size := by rw [hls]; decide
      have hbw := hbW
      refine inv_val (w' := w) (.agg (v8 nm)) rfl rfl (exec_load_row 22 (.tmp 3) rfl w0.heap.size rfl 22 _ _ (r0.below hbW (by omega)) Tryd.underlying22 rfl (name_info hn)) ?_
      exact ⟨s6, s7, (.agg (v8 nm)), s12, s13, s14, s15, s16, s17, s18, s19, rfl, hbw, (fun _ => rfl), (fun h => c1 (bit_ne h (by decide))), (fun h => c2 (bit_ne h (by decide))), (fun h => c3 (bit_ne h (by decide))), (fun h => c4 (bit_ne h (by decide))), (fun h => c5 (bit_ne h (by decide))), (fun h => c6 (bit_ne h (by decide))), (fun h => c7 (bit_ne h (by decide))), (fun h h2 => c8 (bit_ne h (by decide)) (bit_ne h2 (by decide))), (fun h => c9 (bit_ne h (by decide))), (fun h => c10 (bit_ne h (by decide)))⟩
    · obtain rfl := Option.some.inj ho
      have hsz : 1 < listed.size := by rw [hls]; decide
      have hbw := hbW
      refine inv_val (w' := w) (.int .i64 (h : Int)) rfl rfl rfl ?_
      exact ⟨s6, s7, s11, (.int .i64 (h : Int)), s13, s14, s15, s16, s17, s18, s19, rfl, hbw, (fun h => c0 (bit_ne h (by decide))), (fun _ => rfl), (fun h => c2 (bit_ne h (by decide))), (fun h => c3 (bit_ne h (by decide))), (fun h => c4 (bit_ne h (by decide))), (fun h => c5 (bit_ne h (by decide))), (fun h => c6 (bit_ne h (by decide))), (fun h => c7 (bit_ne h (by decide))), (fun h h2 => c8 (bit_ne h (by decide)) (bit_ne h2 (by decide))), (fun h => c9 (bit_ne h (by decide))), (fun h => c10 (bit_ne h (by decide)))⟩
    · obtain rfl := Option.some.inj ho
      have hsz : 2 < listed.size := by rw [hls]; decide
      have hbw := hbW
      refine inv_val (w' := w) (.agg (v8 nm)) rfl rfl (exec_load_row 22 (.tmp 3) rfl w0.heap.size rfl 22 _ _ (r0.below hbW (by omega)) Tryd.underlying22 rfl (name_info hn)) ?_
      exact ⟨s6, s7, s11, s12, (.agg (v8 nm)), s14, s15, s16, s17, s18, s19, rfl, hbw, (fun h => c0 (bit_ne h (by decide))), (fun h => c1 (bit_ne h (by decide))), (fun _ => rfl), (fun h => c3 (bit_ne h (by decide))), (fun h => c4 (bit_ne h (by decide))), (fun h => c5 (bit_ne h (by decide))), (fun h => c6 (bit_ne h (by decide))), (fun h => c7 (bit_ne h (by decide))), (fun h h2 => c8 (bit_ne h (by decide)) (bit_ne h2 (by decide))), (fun h => c9 (bit_ne h (by decide))), (fun h => c10 (bit_ne h (by decide)))⟩
    · obtain rfl := Option.some.inj ho
      have hsz : 3 < listed.size := by rw [hls]; decide
      have hbw := hbW
      refine inv_val (w' := w) (.agg (v8 seed)) rfl rfl (exec_load_row 24 (.tmp 4) rfl (w0.heap.size + 1) rfl 24 _ _ (r1.below hbW (by omega)) Tryd.underlying24 rfl (id_info hs)) ?_
      exact ⟨s6, s7, s11, s12, s13, (.agg (v8 seed)), s15, s16, s17, s18, s19, rfl, hbw, (fun h => c0 (bit_ne h (by decide))), (fun h => c1 (bit_ne h (by decide))), (fun h => c2 (bit_ne h (by decide))), (fun _ => rfl), (fun h => c4 (bit_ne h (by decide))), (fun h => c5 (bit_ne h (by decide))), (fun h => c6 (bit_ne h (by decide))), (fun h => c7 (bit_ne h (by decide))), (fun h h2 => c8 (bit_ne h (by decide)) (bit_ne h2 (by decide))), (fun h => c9 (bit_ne h (by decide))), (fun h => c10 (bit_ne h (by decide)))⟩
    · obtain rfl := Option.some.inj ho
      have hsz : 4 < listed.size := by rw [hls]; decide
      have hbw := hbW
      refine inv_val (w' := w) (.int .i64 (h : Int)) rfl rfl rfl ?_
      exact ⟨s6, s7, s11, s12, s13, s14, (.int .i64 (h : Int)), s16, s17, s18, s19, rfl, hbw, (fun h => c0 (bit_ne h (by decide))), (fun h => c1 (bit_ne h (by decide))), (fun h => c2 (bit_ne h (by decide))), (fun h => c3 (bit_ne h (by decide))), (fun _ => rfl), (fun h => c5 (bit_ne h (by decide))), (fun h => c6 (bit_ne h (by decide))), (fun h => c7 (bit_ne h (by decide))), (fun h h2 => c8 (bit_ne h (by decide)) (bit_ne h2 (by decide))), (fun h => c9 (bit_ne h (by decide))), (fun h => c10 (bit_ne h (by decide)))⟩
    · obtain rfl := Option.some.inj ho
      have hsz : 5 < listed.size := by rw [hls]; decide
      have hdep2 : listed.getD 2 false = true := hall ⟨2, .data⟩ (by simp) (by rfl)
      obtain rfl := c2 hdep2
      have hdep3 : listed.getD 3 false = true := hall ⟨3, .data⟩ (by simp) (by rfl)
      obtain rfl := c3 hdep3
      have hdep4 : listed.getD 4 false = true := hall ⟨4, .data⟩ (by simp) (by rfl)
      obtain rfl := c4 hdep4
      refine inv_call 45 #[.agg (v8 nm), .agg (v8 seed), .int .i64 (h : Int)] _ rfl rfl (by kernel_rfl) (hgr w (hL.below (b1.trans (hbW.mono (by omega))))) ?_
      rintro e w' ⟨rfl, hb⟩
      have hbw : Below B w1 w' := hbW.trans (hb.mono (hsB hbW))
      refine ⟨_, rfl, ?_⟩
      exact ⟨s6, s7, s11, s12, (.agg (v8 nm)), (.agg (v8 seed)), (.int .i64 (h : Int)), (.agg (v8 T)), s17, s18, s19, rfl, hbw, (fun h => c0 (bit_ne h (by decide))), (fun h => c1 (bit_ne h (by decide))), (fun h => c2 (bit_ne h (by decide))), (fun h => c3 (bit_ne h (by decide))), (fun h => c4 (bit_ne h (by decide))), (fun _ => rfl), (fun h => c6 (bit_ne h (by decide))), (fun h => c7 (bit_ne h (by decide))), (fun h h2 => (c8 (bit_ne h (by decide)) (bit_ne h2 (by decide))).below hb), (fun h => (c9 (bit_ne h (by decide))).below hb), (fun h => c10 (bit_ne h (by decide)))⟩
    · obtain rfl := Option.some.inj ho
      have hsz : 6 < listed.size := by rw [hls]; decide
      have hdep5 : listed.getD 5 false = true := hall ⟨5, .data⟩ (by simp) (by rfl)
      obtain rfl := c5 hdep5
      have hbw := hbW
      refine inv_val (w' := w) (.agg (v8 TOP)) rfl rfl (exec_index_sub 77 24 64 32 T TOP (.tmp 16) 1 _ rfl rfl Tryd.underlying77 Tryd.underlying24 rfl hi32 (by decide) hTT.symm) ?_
      exact ⟨s6, s7, s11, s12, s13, s14, s15, (.agg (v8 T)), (.agg (v8 TOP)), s18, s19, rfl, hbw, (fun h => c0 (bit_ne h (by decide))), (fun h => c1 (bit_ne h (by decide))), (fun h => c2 (bit_ne h (by decide))), (fun h => c3 (bit_ne h (by decide))), (fun h => c4 (bit_ne h (by decide))), (fun h => c5 (bit_ne h (by decide))), (fun _ => rfl), (fun h => c7 (bit_ne h (by decide))), (fun h h2 => c8 (bit_ne h (by decide)) (bit_ne h2 (by decide))), (fun h => c9 (bit_ne h (by decide))), (fun h => c10 (bit_ne h (by decide)))⟩
    · obtain rfl := Option.some.inj ho
      have hsz : 7 < listed.size := by rw [hls]; decide
      have hdep0 : listed.getD 0 false = true := hall ⟨0, .data⟩ (by simp) (by rfl)
      obtain rfl := c0 hdep0
      have hdep1 : listed.getD 1 false = true := hall ⟨1, .data⟩ (by simp) (by rfl)
      obtain rfl := c1 hdep1
      have hdep6 : listed.getD 6 false = true := hall ⟨6, .data⟩ (by simp) (by rfl)
      obtain rfl := c6 hdep6
      have hbw := hbW
      refine inv_val (w' := w) (.agg (kc nm (h : Int) TOP)) rfl rfl (exec_build 80 _ [(0, .agg (v8 nm)), (1, .int .i64 (h : Int)), (2, .agg (v8 TOP))] _ rfl (by simp [Act.eval]) hbk) ?_
      exact ⟨s6, s7, (.agg (v8 nm)), (.int .i64 (h : Int)), s13, s14, s15, s16, (.agg (v8 TOP)), (.agg (kc nm (h : Int) TOP)), s19, rfl, hbw, (fun h => c0 (bit_ne h (by decide))), (fun h => c1 (bit_ne h (by decide))), (fun h => c2 (bit_ne h (by decide))), (fun h => c3 (bit_ne h (by decide))), (fun h => c4 (bit_ne h (by decide))), (fun h => c5 (bit_ne h (by decide))), (fun h => c6 (bit_ne h (by decide))), (fun _ => rfl), (fun h h2 => c8 (bit_ne h (by decide)) (bit_ne h2 (by decide))), (fun h => c9 (bit_ne h (by decide))), (fun h => c10 (bit_ne h (by decide)))⟩
    · obtain rfl := Option.some.inj ho
      have hsz : 8 < listed.size := by rw [hls]; decide
      have hdep7 : listed.getD 7 false = true := hall ⟨7, .data⟩ (by simp) (by rfl)
      obtain rfl := c7 hdep7
      refine inv_call 46 #[.agg (kc nm (h : Int) TOP)] _ rfl rfl (by kernel_rfl) (kbytes_any nm TOP h w hn hTl) ?_
      rintro e w' ⟨sp, cap, rfl, ow, hb⟩
      have hbw : Below B w1 w' := hbW.trans (hb.mono (hsB hbW))
      refine ⟨_, rfl, ?_⟩
      exact ⟨s6, s7, s11, s12, s13, s14, s15, s16, s17, (.agg (kc nm (h : Int) TOP)), (.slice sp 56 cap), rfl, hbw, (fun h => c0 (bit_ne h (by decide))), (fun h => c1 (bit_ne h (by decide))), (fun h => c2 (bit_ne h (by decide))), (fun h => c3 (bit_ne h (by decide))), (fun h => c4 (bit_ne h (by decide))), (fun h => c5 (bit_ne h (by decide))), (fun h => c6 (bit_ne h (by decide))), (fun h => c7 (bit_ne h (by decide))), (fun _ _ => ⟨sp, cap, rfl, ow.mono (hsB hbW)⟩), (fun h => (c9 (bit_ne h (by decide))).below hb), (fun h => c10 (bit_ne h (by decide)))⟩
    · obtain rfl := Option.some.inj ho
      have hsz : 9 < listed.size := by rw [hls]; decide
      have hdep8 : listed.getD 8 false = true := hall ⟨8, .data⟩ (by simp) (by rfl)
      obtain ⟨sp8, cap8, rfl, o8⟩ := c8 hdep8 hi
      have hbw := hbW
      refine inv_val (w' := w) (.slice sp8 56 cap8) rfl rfl rfl ?_
      exact ⟨(.slice sp8 56 cap8), s7, s11, s12, s13, s14, s15, s16, s17, s18, (.slice sp8 56 cap8), rfl, hbw, (fun h => c0 (bit_ne h (by decide))), (fun h => c1 (bit_ne h (by decide))), (fun h => c2 (bit_ne h (by decide))), (fun h => c3 (bit_ne h (by decide))), (fun h => c4 (bit_ne h (by decide))), (fun h => c5 (bit_ne h (by decide))), (fun h => c6 (bit_ne h (by decide))), (fun h => c7 (bit_ne h (by decide))), (fun _ h2 => absurd (bit_on hsz) (by rw [h2]; decide)), (fun _ => ⟨sp8, cap8, rfl, o8⟩), (fun h => c10 (bit_ne h (by decide)))⟩
    · obtain rfl := Option.some.inj ho
      have hsz : 10 < listed.size := by rw [hls]; decide
      have hbw := hbW
      refine inv_val (w' := w) (.int .i64 0) rfl rfl rfl ?_
      exact ⟨s6, (.int .i64 0), s11, s12, s13, s14, s15, s16, s17, s18, s19, rfl, hbw, (fun h => c0 (bit_ne h (by decide))), (fun h => c1 (bit_ne h (by decide))), (fun h => c2 (bit_ne h (by decide))), (fun h => c3 (bit_ne h (by decide))), (fun h => c4 (bit_ne h (by decide))), (fun h => c5 (bit_ne h (by decide))), (fun h => c6 (bit_ne h (by decide))), (fun h => c7 (bit_ne h (by decide))), (fun h h2 => c8 (bit_ne h (by decide)) (bit_ne h2 (by decide))), (fun h => c9 (bit_ne h (by decide))), (fun _ => rfl)⟩
  · intro listed a w hall hJ
    obtain ⟨s6, s7, s11, s12, s13, s14, s15, s16, s17, s18, s19, rfl, hbW, c0, c1, c2, c3, c4, c5, c6, c7, c8, c9, c10⟩ := hJ
    obtain rfl := c0 (hall 0 (by decide))
    obtain rfl := c1 (hall 1 (by decide))
    obtain rfl := c2 (hall 2 (by decide))
    obtain rfl := c3 (hall 3 (by decide))
    obtain rfl := c4 (hall 4 (by decide))
    obtain rfl := c5 (hall 5 (by decide))
    obtain rfl := c6 (hall 6 (by decide))
    obtain rfl := c7 (hall 7 (by decide))
    obtain ⟨sp9, cap9, rfl, o9⟩ := c9 (hall 9 (by decide))
    obtain rfl := c10 (hall 10 (by decide))
    go_wp2
    go_ret2
    exact ⟨_, _, rfl, o9.mono (B' := w0.heap.size) (by omega), b1.trans (hbW.mono (by omega))⟩
end

section
open Go Go.RowKit

theorem own_nil0 {w : World} {B n cap : Nat} {e : TypeId} {sp : Option Addr} {l : List Int} (h : Own8 w B e (.slice sp n cap) l) : sp = none → cap = 0 ∧ n = 0 := fun hs => by
  obtain ⟨_, h⟩ := h
  rcases h with ⟨h1, h2⟩ | ⟨g', cap', cur, hv, _⟩
  · injection h1 with h3 h4 h5
    exact ⟨h5, h4⟩
  · injection hv with h3 h4 h5
    rw [hs] at h3; cases h3
set_option maxRecDepth 20000 in
set_option maxHeartbeats 400000 in
theorem six4_any (l : List Int) (n : Int) (v : Value) (w : World) (B : Nat) (ho : Own8 w B 5 v l) (hl : l.length ≤ 1000000) (hB : B ≤ w.heap.size) :
    Calls Tryd.prog 48 #[v, .int .i64 n] w fun e w' => ∃ sp cap, e = .returned (.slice sp (l.length + 4) cap) ∧ Own8 w' B 5 (.slice sp (l.length + 4) cap) (l ++ n4 n) ∧ Below B w w' ∧ Grew w w' v.ownBlock ∧ w.heap.size ≤ w'.heap.size := by
  have hby : Bytes (w.alloc (.cells (v8 (n4 n)) 5)) (some ⟨w.heap.size, 0, none⟩) (n4 n) := bytes_lit w _
  have ho1 := ho.alloc (.cells (v8 (n4 n)) 5)
  go_enter Tryd.func48, Tryd.ntmps48
  go_wp2_with (at_builtin; (refine append8g (.tmp 5) (.tmp 17) 28 5 (by rfl) (by rfl) B Tryd.underlying28 info5 v l (by rfl) ?ho (some ⟨w.heap.size, 0, none⟩) 4 4 (n4 n) (by rfl) rfl ?hnil ?hby ?hlen ?hB ?_; (case ho => exact ho1); (case hnil => exact (fun h => by cases h)); (case hby => exact hby); (case hlen => omega); (case hB => simp; omega); rw [show (l ++ n4 n).length = l.length + 4 by simp [n4]]; intro sp5 cap5 w5 o5 b5 g5))
  go_ret
  obtain ⟨_, _, _, gs5, gb5⟩ := g5
  refine ⟨sp5, cap5, rfl, o5, ((Below.refl B w).alloc hB _).trans b5, fun g hg hne => ?_, ?_⟩
  · rw [gb5 g (by simp; omega) hne]
    exact Below.heap_alloc w _ g hg
  · simp at gs5
    omega

set_option maxRecDepth 20000 in
set_option maxHeartbeats 1000000 in
theorem six_node_any (S : List Int → List Int) (hS : Hash S) (nm bs : List Int) (r kd : Int) (sp : Option Addr) (len cap : Nat) (w : World) (hn : nm.length = 16) (hl : bs.length = len) (hm : len ≤ 1000000) (hnil : sp = none → cap = 0 ∧ len = 0) (hby : Bytes w sp bs) :
    Calls Tryd.prog 56 #[.agg (v8 nm), .int .i64 r, .int .u8 kd, .slice sp len cap] w fun e w' => e = .returned (.agg (v8 (S (nm ++ n4 r ++ [kd, kd] ++ bs)))) ∧ Below w.heap.size w w' := by
  have h20 : (nm ++ n4 r).length = 20 := by rw [List.length_append, hn, n4_len]
  have h22 : (nm ++ n4 r ++ [kd, kd]).length = 22 := by rw [List.length_append, h20]; rfl
  have hX : (nm ++ n4 r ++ [kd, kd] ++ bs).length = 22 + len := by rw [List.length_append, h22, hl]
  have hrs : ∀ sp cap w', (sp = none → cap = 0 ∧ 22 + len = 0) → Bytes w' sp (nm ++ n4 r ++ [kd, kd] ++ bs) → Calls Tryd.prog 36 #[.slice sp (22 + len) cap] w' fun e w'' => e = .returned (.agg (v8 (S (nm ++ n4 r ++ [kd, kd] ++ bs)))) ∧ Below w'.heap.size w' w'' := fun sp cap w' h1 h2 => hS.rsum _ sp (22 + len) cap w' hX (by omega) h1 h2
  have hSl := hS.len (nm ++ n4 r ++ [kd, kd] ++ bs)
  generalize S (nm ++ n4 r ++ [kd, kd] ++ bs) = Y at *
  have z32 := zv32
  go_enter Tryd.func56, Tryd.ntmps56
  go_upto_region 1 with fail
  have r0 : Row (World.alloc (World.alloc w (.cells (v8 nm) 22)) (.cells (v8 (zer 32)) 24)) w.heap.size 22 (v8 nm) := (Row.new _ _ _).alloc _
  have r1 : Row (World.alloc (World.alloc w (.cells (v8 nm) 22)) (.cells (v8 (zer 32)) 24)) (w.heap.size + 1) 24 (v8 (zer 32)) := Row.newAt _ _ _ _ (by simp)
  have b1 : Below w.heap.size w (World.alloc (World.alloc w (.cells (v8 nm) 22)) (.cells (v8 (zer 32)) 24)) := ((Below.refl _ _).alloc (Nat.le_refl _) _).alloc (by simp) _
  change Code.wp _ _ _ _ ((World.alloc (World.alloc w (.cells (v8 nm) 22)) (.cells (v8 (zer 32)) 24)))
  generalize (World.alloc (World.alloc w (.cells (v8 nm) 22)) (.cells (v8 (zer 32)) 24)) = w1 at r0 r1 b1 ⊢
  have hr1 := r1.lt
  obtain ⟨B, hB⟩ : ∃ B, B = w1.heap.size := ⟨_, rfl⟩
  have ho1 : Own8 (w1.alloc (.cells #[] 5)) B 5 (.slice (some ⟨w1.heap.size, 0, none⟩) 0 0) [] := own8_lit w1 B (by omega)
  have hb1 : Bytes (w1.alloc (.cells #[] 5)) (some ⟨w.heap.size, 0, none⟩) nm := (r0.alloc _).bytes
  have hs1 : B ≤ (w1.alloc (.cells #[] 5)).heap.size := by rw [hB]; simp
  have c1 : Below B w1 (w1.alloc (.cells #[] 5)) := (Below.refl _ _).alloc (by omega) _
  have e20 : nm.length + 4 = 20 := by omega
  have e22 : (nm ++ n4 r ++ [kd, kd]).length = 22 := h22
  have eX : (nm ++ n4 r ++ [kd, kd] ++ bs).length = 22 + len := hX
  have i0 : ([] : List Int).length + 16 ≤ 70368744177664 := by simp
  have i2 : (nm ++ n4 r).length + 2 ≤ 70368744177664 := by omega
  have i3 : (nm ++ n4 r ++ [kd, kd]).length + len ≤ 70368744177664 := by omega
  go_upto_region 2 with (first | (at_builtin; (refine append8g (.tmp 10) (.tmp 11) 28 5 (by rfl) (by rfl) B Tryd.underlying28 info5 (.slice (some ⟨w1.heap.size, 0, none⟩) 0 0) [] (by rfl) ?ho (some ⟨w.heap.size, 0, none⟩) 16 16 nm (by rfl) hn ?hnil ?hby ?hlen ?hB ?_; (case ho => exact ho1); (case hnil => exact (fun h => by cases h)); (case hby => exact hb1); (case hlen => exact i0); (case hB => exact hs1); rw [List.nil_append, hn]; intro sp5 cap5 w5 o5 b5 g5; have hs5 := Nat.le_trans hs1 b5.size)) | (go_at_call 48; (with_reducible refine Calls.mono (six4_any nm r _ w5 B o5 (by omega) hs5) ?_); rintro e w6 ⟨sp6, cap6, rfl, o6, b6, _, hs6⟩; rw [e20] at o6; have ho7 := o6.alloc (.cells (v8 [kd, kd]) 5); have hl7 := bytes_lit w6 [kd, kd]; have hs7 : B ≤ (w6.alloc (.cells (v8 [kd, kd]) 5)).heap.size := Nat.le_trans (Nat.le_trans hs5 hs6) (by simp)) | (at_builtin; (refine append8g (.tmp 14) (.tmp 17) 28 5 (by rfl) (by rfl) B Tryd.underlying28 info5 (.slice sp6 20 cap6) (nm ++ n4 r) (by rfl) ?ho (some ⟨w6.heap.size, 0, none⟩) 2 2 [kd, kd] (by rfl) rfl ?hnil ?hby ?hlen ?hB ?_; (case ho => exact ho7); (case hnil => exact (fun h => by cases h)); (case hby => exact hl7); (case hlen => exact i2); (case hB => exact hs7); rw [e22]; intro sp7 cap7 w7 o7 b7 g7)))
  have c7 : Below B w1 w7 := ((c1.trans b5).trans b6).trans (((Below.refl B w6).alloc (Nat.le_trans hs5 hs6) _).trans b7)
  have hby7 : Bytes w7 sp bs := hby.below (b1.trans (c7.mono (by omega)))
  have hs8 : B ≤ w7.heap.size := by have := c7.size; omega
  have hr7 := r1.below c7 (by omega)
  go_wp2_with (first | (at_builtin; (refine append8g (.tmp 19) (.tmp 20) 28 5 (by rfl) (by rfl) B Tryd.underlying28 info5 (.slice sp7 22 cap7) (nm ++ n4 r ++ [kd, kd]) (by rfl) ?ho sp len cap bs (by rfl) hl ?hnil ?hby ?hlen ?hB ?_; (case ho => exact o7); (case hnil => exact hnil); (case hby => exact hby7); (case hlen => exact i3); (case hB => exact hs8); rw [eX]; intro sp8 cap8 w8 o8 b8 g8; have hr8 := hr7.below b8 (by omega))) | (go_at_call 36; (with_reducible refine Calls.mono (hrs _ _ _ ?hn1 ?hy1) ?_); (case hn1 => exact own_nil0 o8); (case hy1 => exact o8.bytes); rintro e w9 ⟨rfl, hb9⟩; have hr9 := hr8.below hb9 (by have := b8.size; omega)) | (refine store_row0 24 (.tmp 8) (.tmp 22) (by rfl) (by rfl) (by rfl) (w.heap.size + 1) (v8 Y) (by rfl) (by rfl) 24 _ hr9 (id_info hSl) (by rw [v8_size, v8_size, hSl, zer_len]) (v8_one _) ?_))
  exact bodyPost_ret (results_cell_row Tryd.results56 _ _ (w.heap.size + 1) 24 (v8 Y) (0, 0) _ rfl (hr9.setRow _) Tryd.underlying24 rfl (id_info hSl)) rfl ⟨rfl, below_setRow (b1.trans ((c7.trans (b8.trans (hb9.mono (by have := b8.size; omega)))).mono (by omega))) (by omega) _⟩
end

end Go.Proofs.YtoebnkepeledmaaDoor
