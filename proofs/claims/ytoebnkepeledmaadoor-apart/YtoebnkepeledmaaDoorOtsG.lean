/- ots.Sign: the signature of a text. No old memory turns. -/
import Derived.Test.YtoebnkepeledmaaDoorOtsF
namespace Go.Proofs.YtoebnkepeledmaaDoor
open Go.RowKit

theorem zv4 (wx : World) : (zeroValue 66).run Tryd.prog wx = .ok (.agg (v8 (zer 4))) wx := by kernel_rfl
theorem a4_info {l : List Int} (h : l.length = 4) : (Tryd.prog.info? 66).map (·.size) = some (v8 l).size := by rw [v8_size, h]; kernel_rfl
theorem make4292 (w : World) : (Instr.makeSlice 28 (.int .i64 4292) (.int .i64 4292)).run Tryd.prog w = .ok (.slice (some ⟨w.heap.size, 0, none⟩) 4292 4292) (w.alloc (.cells (v8 (zer 4292)) 5)) := make8 4292 (by omega) w

set_option maxRecDepth 20000 in
set_option maxHeartbeats 400000 in
theorem Sign_any (S : List Int → List Int) (hS : Hash S) (nm seed msg : List Int) (q : Int) (mp : Option Addr) (len cap : Nat) (w : World) (hL : Laid w) (hn : nm.length = 16) (hs : seed.length = 32) (hm : msg.length = len) (hmax : len ≤ 17592186044416) (hby : Bytes w mp msg) :
    Calls Tryd.prog 17 #[.agg (v8 nm), .int .i64 q, .agg (v8 seed), .slice mp len cap] w fun e w' => ∃ g, e = .returned (.slice (some ⟨g, 0, none⟩) 4292 4292) ∧ w.heap.size ≤ g ∧ Row w' g 5 (v8 (sigL S (nm ++ n4 q) seed msg)) ∧ Below w.heap.size w w' := by
  have hlo := fun wx => leafOf_any nm q wx hn
  have hH : (nm ++ n4 q).length = 20 := by rw [List.length_append, hn, n4_len]
  generalize nm ++ n4 q = H at *
  have hx : ∀ (k : Nat) wx, Laid wx → k < 133 → Calls Tryd.prog 31 #[.agg (v8 H), .int .i64 (k : Int), .agg (v8 seed)] wx fun e w' => e = .returned (.agg (v8 (xL S H seed k))) ∧ Below wx.heap.size wx w' := fun k wx hl hk =>
    start_any S hS H seed k wx hl hH hs (by omega) (by omega)
  have hsa : ∀ wx, Laid wx → Calls Tryd.prog 31 #[.agg (v8 H), .int .i64 65533, .agg (v8 seed)] wx fun e w' => e = .returned (.agg (v8 (saltL S H seed))) ∧ Below wx.heap.size wx w' := fun wx hl =>
    start_any S hS H seed 65533 wx hl hH hs (by omega) (by omega)
  have hcl0 : (saltL S H seed).length = 32 := hS.len _
  have htx : ∀ wx, Laid wx → Bytes wx mp msg → Calls Tryd.prog 39 #[.agg (v8 H), .agg (v8 (saltL S H seed)), .slice mp len cap] wx fun e w' => e = .returned (.agg (v8 (textL S H (saltL S H seed) msg))) ∧ Below wx.heap.size wx w' := fun wx hl hb =>
    text_any S hS H (saltL S H seed) msg mp len cap wx hl hH hcl0 hm hmax hb
  have hsig : sigL S H seed msg = n4 2 ++ saltL S H seed ++ catN (zL S H seed (textL S H (saltL S H seed) msg)) 133 := rfl
  have hQl : (textL S H (saltL S H seed) msg).length = 32 := hS.len _
  have hQ8 : In8 (textL S H (saltL S H seed) msg) := hS.in8 _
  generalize saltL S H seed = SA at *
  generalize textL S H SA msg = Q at *
  have hdg : ∀ wx, Calls Tryd.prog 38 #[.agg (v8 Q)] wx fun e w' => e = .returned (.agg (v64 (digsL Q))) ∧ Below wx.heap.size wx w' := fun wx => digits_any Q wx hQl hQ8
  have hidx : ∀ k : Nat, k < 133 → ∀ wx, (Instr.index 69 (.agg (v64 (digsL Q))) (.int .i64 (k : Int))).run Tryd.prog wx = .ok (.int .i64 (digN (fullL Q) k)) wx := fun k hk wx =>
    run_index_row 69 3 133 .i64 _ .i64 k _ Tryd.underlying69 Tryd.underlying3 (by kernel_rfl) hk (by rw [v64_at (by rw [digsL_len]; exact hk), digsL_at Q k hk])
  have hz : ∀ (k : Nat) wx, Laid wx → k < 133 → Calls Tryd.prog 30 #[.agg (v8 H), .int .i64 (k : Int), .int .i64 0, .int .i64 (digN (fullL Q) k), .agg (v8 (xL S H seed k))] wx fun e w' => e = .returned (.agg (v8 (zL S H seed Q k))) ∧ Below wx.heap.size wx w' := fun k wx hl hk => by
    have hd := digN_nat (fullL Q) k
    have := walk_any S hS H (xL S H seed k) k 0 (digN (fullL Q) k).toNat wx hl hH (hS.len _) (by omega) (by omega) (by omega)
    rw [hd.1] at this
    exact this
  have hzl : ∀ i, (zL S H seed Q i).length = 32 := zL_len (fun l => hS.len l) H seed Q
  have hcl' : Hid (∀ k, (catN (zL S H seed Q) k).length = 32 * k) := catN_len hzl
  have hC0 : catN (zL S H seed Q) 0 = [] := rfl
  have hCs' : Hid (∀ k, catN (zL S H seed Q) (k + 1) = catN (zL S H seed Q) k ++ zL S H seed Q k) := fun _ => rfl
  generalize catN (zL S H seed Q) = C at *
  generalize zL S H seed Q = Y at *
  have hxl : ∀ k : Int, (xL S H seed k).length = 32 := fun k => hS.len _
  generalize xL S H seed = X at *
  generalize digsL Q = DG at *
  generalize digN (fullL Q) = D at *
  have hX0 : (n4 2 ++ SA).length = 36 := by rw [List.length_append, n4_len, hcl0]
  obtain ⟨N4, hN4⟩ : ∃ N4, N4 = n4 2 := ⟨_, rfl⟩
  have hfo : ∀ wx, Calls Tryd.prog 37 #[.int .u32 2] wx fun e w' => e = .returned (.agg (v8 N4)) ∧ Below wx.heap.size wx w' := fun wx => by rw [hN4]; exact four_any 2 wx
  have hN4l : N4.length = 4 := by rw [hN4]; rfl
  rw [← hN4] at hX0
  have hsig' : Hid (sigL S H seed msg = N4 ++ SA ++ C 133) := by show _ = _; rw [hN4]; exact hsig
  clear hN4 hsig
  generalize sigL S H seed msg = SG at *
  have z20 := zv20
  have z32 := zv32
  have z4 := zv4
  have hmk := make4292
  go_enter Tryd.func17, Tryd.ntmps17
  go_upto_region 1 with fail
  have r0 : Row (World.alloc (World.alloc w (.cells (v8 nm) 22)) (.cells (v8 seed) 24)) w.heap.size 22 (v8 nm) := (Row.new _ _ _).alloc _
  have r1 : Row (World.alloc (World.alloc w (.cells (v8 nm) 22)) (.cells (v8 seed) 24)) (w.heap.size + 1) 24 (v8 seed) := Row.newAt _ _ _ _ (by simp)
  have b1 : Below w.heap.size w (World.alloc (World.alloc w (.cells (v8 nm) 22)) (.cells (v8 seed) 24)) := ((Below.refl _ _).alloc (Nat.le_refl _) _).alloc (by simp) _
  change Code.wp _ _ _ _ ((World.alloc (World.alloc w (.cells (v8 nm) 22)) (.cells (v8 seed) 24)))
  generalize (World.alloc (World.alloc w (.cells (v8 nm) 22)) (.cells (v8 seed) 24)) = w1 at r0 r1 b1 ⊢
  have hr1 := r1.lt
  go_upto_region 2 with (first | (refine wpList_load_row (by rfl) 22 (.tmp 4) (by rfl) w.heap.size (by rfl) 22 (v8 nm) (0, 0) _ r0 Tryd.underlying22 rfl (name_info hn) ?_) | (go_at_call 29; (with_reducible refine Calls.mono (hlo _) ?_); rintro e w3 ⟨rfl, hb3⟩) | (refine store_row0 55 (.tmp 9) (.tmp 18) (by rfl) (by rfl) (by rfl) w3.heap.size (v8 H) (by rfl) (by rfl) 55 (v8 (zer 20)) (Row.new w3 55 _) (leaf_info hH) (by rw [v8_size, v8_size, hH, zer_len]) (v8_one _) ?_))
  have hs3 := hb3.size
  have p1 := ((r1.below hb3 (by omega)).alloc (.cells (v8 (zer 20)) 55)).setRowOther (g := w3.heap.size) (by omega) (v8 H)
  have p2 := (Row.new w3 55 (v8 (zer 20))).setRow (v8 H)
  have pb : Below w.heap.size w ((w3.alloc (.cells (v8 (zer 20)) 55)).setRow w3.heap.size (v8 H)) := below_setRow ((b1.trans (hb3.mono b1.size)).alloc (by omega) _) (by omega) _
  obtain ⟨gl, hgl⟩ : ∃ gl, gl = w3.heap.size := ⟨_, rfl⟩
  have hg : w.heap.size + 1 < gl := by omega
  change Code.wp _ _ _ _ ((w3.alloc (.cells (v8 (zer 20)) 55)).setRow w3.heap.size (v8 H))
  rw [← hgl] at p1 p2 pb ⊢
  generalize (w3.alloc (.cells (v8 (zer 20)) 55)).setRow gl (v8 H) = w4 at p1 p2 pb ⊢
  clear hgl r0 r1 b1 hb3 hs3 z20 hr1
  have hp2 := p2.lt
  go_upto_region 3 with (first | (refine wpList_load_row (by rfl) 55 (.tmp 9) (by rfl) gl (by rfl) 55 (v8 H) (0, 0) _ p2 Tryd.underlying55 rfl (leaf_info hH) ?_) | (refine wpList_load_row (by rfl) 24 (.tmp 6) (by rfl) (w.heap.size + 1) (by rfl) 24 (v8 seed) (0, 0) _ p1 Tryd.underlying24 rfl (id_info hs) ?_) | (go_at_call 31; (with_reducible refine Calls.mono (hsa _ (hL.below pb)) ?_); rintro e w5 ⟨rfl, hb5⟩) | (refine store_row0 24 (.tmp 10) (.tmp 21) (by rfl) (by rfl) (by rfl) w5.heap.size (v8 SA) (by rfl) (by rfl) 24 (v8 (zer 32)) (Row.new w5 24 _) (id_info hcl0) (by rw [v8_size, v8_size, hcl0, zer_len]) (v8_one _) ?_))
  have hs5 := hb5.size
  have q1 := ((p1.below hb5 (by omega)).alloc (.cells (v8 (zer 32)) 24)).setRowOther (g := w5.heap.size) (by omega) (v8 SA)
  have q2 := ((p2.below hb5 (by omega)).alloc (.cells (v8 (zer 32)) 24)).setRowOther (g := w5.heap.size) (by omega) (v8 SA)
  have q3 := (Row.new w5 24 (v8 (zer 32))).setRow (v8 SA)
  have qb : Below w.heap.size w ((w5.alloc (.cells (v8 (zer 32)) 24)).setRow w5.heap.size (v8 SA)) := below_setRow ((pb.trans (hb5.mono pb.size)).alloc (by omega) _) (by omega) _
  obtain ⟨gs, hgs⟩ : ∃ gs, gs = w5.heap.size := ⟨_, rfl⟩
  have hg2 : gl < gs := by omega
  change Code.wp _ _ _ _ ((w5.alloc (.cells (v8 (zer 32)) 24)).setRow w5.heap.size (v8 SA))
  rw [← hgs] at q1 q2 q3 qb ⊢
  generalize (w5.alloc (.cells (v8 (zer 32)) 24)).setRow gs (v8 SA) = w6 at q1 q2 q3 qb ⊢
  clear hgs p1 p2 pb hb5 hs5 hp2
  have hq3 := q3.lt
  go_upto_region 5 with (first | (go_at_call 37; (with_reducible refine Calls.mono (hfo _) ?_); rintro e w7 ⟨rfl, hb7⟩) | (refine store_row0 66 (.tmp 12) (.tmp 23) (by rfl) (by rfl) (by rfl) w7.heap.size (v8 N4) (by rfl) (by rfl) 66 (v8 (zer 4)) (Row.new w7 66 _) (a4_info hN4l) (by rw [v8_size, v8_size, hN4l, zer_len]) (v8_one _) ?_))
  have hs7 := hb7.size
  rw [show (w6.alloc (.cells (v8 (zer 4292)) 5)).heap.size = w6.heap.size + 1 by simp] at hs7
  have i1 := (((q1.alloc (.cells (v8 (zer 4292)) 5)).below hb7 (by simp; omega)).alloc (.cells (v8 (zer 4)) 66)).setRowOther (g := w7.heap.size) (by omega) (v8 N4)
  have i2 := (((q2.alloc (.cells (v8 (zer 4292)) 5)).below hb7 (by simp; omega)).alloc (.cells (v8 (zer 4)) 66)).setRowOther (g := w7.heap.size) (by omega) (v8 N4)
  have i3 := (((q3.alloc (.cells (v8 (zer 4292)) 5)).below hb7 (by simp; omega)).alloc (.cells (v8 (zer 4)) 66)).setRowOther (g := w7.heap.size) (by omega) (v8 N4)
  have i4 := (((Row.new w6 5 (v8 (zer 4292))).below hb7 (by simp)).alloc (.cells (v8 (zer 4)) 66)).setRowOther (g := w7.heap.size) (by omega) (v8 N4)
  have i5 := (Row.new w7 66 (v8 (zer 4))).setRow (v8 N4)
  have ib : Below w.heap.size w ((w7.alloc (.cells (v8 (zer 4)) 66)).setRow w7.heap.size (v8 N4)) := below_setRow (((qb.alloc qb.size (.cells (v8 (zer 4292)) 5)).trans (hb7.mono (by have := qb.size; simp; omega))).alloc (by have := qb.size; omega) _) (by have := qb.size; omega) _
  obtain ⟨gk, hgk⟩ : ∃ gk, gk = w6.heap.size := ⟨_, rfl⟩
  obtain ⟨g4, hg4⟩ : ∃ g4, g4 = w7.heap.size := ⟨_, rfl⟩
  have hg3 : gs < gk := by omega
  have hg5 : gk < g4 := by omega
  change Code.wp _ _ _ _ ((w7.alloc (.cells (v8 (zer 4)) 66)).setRow w7.heap.size (v8 N4))
  rw [← hgk] at i4 ⊢
  rw [← hg4] at i1 i2 i3 i4 i5 ib ⊢
  generalize (w7.alloc (.cells (v8 (zer 4)) 66)).setRow g4 (v8 N4) = w8 at i1 i2 i3 i4 i5 ib ⊢
  clear hgk hg4 q1 q2 q3 qb hb7 hs7 hq3 hmk z4
  go_upto_region 6 with (refine copy8 (.tmp 24) (.tmp 25) 28 28 (by rfl) (by rfl) 5 Tryd.underlying28 (by kernel_rfl) (some ⟨gk, 0, none⟩) (some ⟨g4, 0, none⟩) 4292 4292 4 4 (by rfl) (by rfl) gk 0 (zer 4292) 5 i4 N4 (by rw [hN4l]; rfl) (fun _ => rfl) i5.bytes (by rw [hN4l, zer_len]; omega) ?_)
  simp only [Act.put, List.setIfInBounds_toArray, List.set_cons_succ, List.set_cons_zero]
  rw [hN4l, show ((4 : Nat) : Int) = 4 from rfl, show spl (zer 4292) 0 N4 = N4 ++ List.replicate (4292 - 4) 0 by rw [zer_eq, spl_zero, hN4l]]
  have j1 := i1.setRowOther (g := gk) (by omega) (v8 (N4 ++ List.replicate (4292 - 4) 0))
  have j2 := i2.setRowOther (g := gk) (by omega) (v8 (N4 ++ List.replicate (4292 - 4) 0))
  have j3 := i3.setRowOther (g := gk) (by omega) (v8 (N4 ++ List.replicate (4292 - 4) 0))
  have j4 := i4.setRow (v8 (N4 ++ List.replicate (4292 - 4) 0))
  have jb := below_setRow (g := gk) ib (by omega) (v8 (N4 ++ List.replicate (4292 - 4) 0))
  generalize w8.setRow gk (v8 (N4 ++ List.replicate (4292 - 4) 0)) = w9 at j1 j2 j3 j4 jb ⊢
  clear i1 i2 i3 i4 i5 ib
  refine wp_region_quiet_tail 3 (by kernel_rfl) (by kernel_rfl) ?_
  simp only [List.take_succ_cons, List.take_zero, List.drop_succ_cons, List.drop_zero]
  repeat (go_big_quiet_step (fail))
  refine wpQuiet_nil ?_
  rintro _ ⟨nq, rfl⟩
  refine copy8 (w := w9.drewN nq) (.tmp 28) (.tmp 29) 28 28 (by rfl) (by rfl) 5 Tryd.underlying28 (by kernel_rfl) (some ⟨gk, 4, none⟩) (some ⟨gs, 0, none⟩) 4288 4288 32 32 (by rfl) (by rfl) (gk) (4) (N4 ++ List.replicate (4292 - 4) 0) 5 (j4.drewN nq) SA (by rw [hcl0]; rfl) (fun _ => rfl) ((j3.drewN nq).bytes) (by rw [List.length_append, hN4l, hcl0]; simp) ?_
  simp only [Act.put, List.setIfInBounds_toArray, List.set_cons_succ, List.set_cons_zero]
  rw [hcl0, show ((32 : Nat) : Int) = 32 from rfl, show spl (N4 ++ List.replicate (4292 - 4) 0) 4 SA = N4 ++ SA ++ List.replicate (4292 - 36) 0 by have := spl_mid N4 SA (4292 - 4); rw [hN4l, hcl0] at this; exact this]
  have u1 := (j1.drewN nq).setRowOther (g := gk) (by omega) (v8 (N4 ++ SA ++ List.replicate (4292 - 36) 0))
  have u2 := (j2.drewN nq).setRowOther (g := gk) (by omega) (v8 (N4 ++ SA ++ List.replicate (4292 - 36) 0))
  have u3 := (j3.drewN nq).setRowOther (g := gk) (by omega) (v8 (N4 ++ SA ++ List.replicate (4292 - 36) 0))
  have u4 := (j4.drewN nq).setRow (v8 (N4 ++ SA ++ List.replicate (4292 - 36) 0))
  have ub := below_setRow (g := gk) (below_drewN jb nq) (by omega) (v8 (N4 ++ SA ++ List.replicate (4292 - 36) 0))
  generalize (w9.drewN nq).setRow gk (v8 (N4 ++ SA ++ List.replicate (4292 - 36) 0)) = w10 at u1 u2 u3 u4 ub ⊢
  clear j1 j2 j3 j4 jb
  generalize N4 ++ SA = X0 at *
  have hu4 := u4.lt
  have htx' := htx w10 (hL.below ub) (hby.below ub)
  go_wp2_with (first | (refine wpList_load_row (by rfl) 55 (.tmp 9) (by rfl) gl (by rfl) 55 (v8 H) (0, 0) _ u2 Tryd.underlying55 rfl (leaf_info hH) ?_) | (refine wpList_load_row (by rfl) 24 (.tmp 10) (by rfl) gs (by rfl) 24 (v8 SA) (0, 0) _ u3 Tryd.underlying24 rfl (id_info hcl0) ?_) | (go_at_call 39; (with_reducible refine Calls.mono htx' ?_); rintro e w11 ⟨rfl, hb11⟩) | (go_at_call 38; (with_reducible refine Calls.mono (hdg _) ?_); rintro e w12 ⟨rfl, hb12⟩))
  have hs11 := hb11.size
  have hbb : Below w10.heap.size w10 w12 := hb11.trans (hb12.mono hs11)
  have a1 := u1.below hbb (by omega)
  have a2 := u2.below hbb (by omega)
  have a4 := u4.below hbb (by omega)
  have ab := ub.trans (hbb.mono ub.size)
  clear u1 u2 u3 u4 ub hb11 hb12 hs11 hbb htx' htx hdg hsa hlo hfo
  go_loopw [36] (fun v wr => ∃ k : Nat, k ≤ 133 ∧ v = .int .i64 (k : Int) ∧ Row wr (w.heap.size + 1) 24 (v8 seed) ∧ Row wr gl 55 (v8 H) ∧ Row wr gk 5 (v8 (X0 ++ C k ++ List.replicate (4256 - 32 * k) 0)) ∧ Below w.heap.size w wr) (fun v _ => 133 - (intOf v).toNat)
  case atStart => exact ⟨0, by omega, rfl, a1, a2, by simpa [hC0] using a4, ab⟩
  case round =>
    clear a1 a2 a4 ab
    obtain ⟨k, hk, rfl, z1, z3, z4, zb⟩ := hrel
    have hz4 := z4.lt
    by_cases hlt : k < 133
    · have hCl := hcl'.out k
      have hYk := hzl k
      have hXk := hxl k
      have hix := hidx k hlt
      have hXC : (X0 ++ C k).length = 36 + 32 * k := by rw [List.length_append, hX0, hCl]
      have hnx : Hid (spl (X0 ++ C k ++ List.replicate (4256 - 32 * k) 0) (36 + 32 * k) (Y k) = X0 ++ C (k + 1) ++ List.replicate (4256 - 32 * (k + 1)) 0) := by
        have := spl_mid (X0 ++ C k) (Y k) (4256 - 32 * k)
        rw [hXC, hYk] at this
        show _ = _
        rw [this, hCs'.out k, ← List.append_assoc, show 4256 - 32 * k - 32 = 4256 - 32 * (k + 1) by omega]
      have hAl : (X0 ++ C k ++ List.replicate (4256 - 32 * k) 0).length = 4292 := by rw [List.length_append, hXC]; simp; omega
      generalize X0 ++ C k ++ List.replicate (4256 - 32 * k) 0 = A at *
      obtain ⟨B, hB⟩ : ∃ B, B = X0 ++ C (k + 1) ++ List.replicate (4256 - 32 * (k + 1)) 0 := ⟨_, rfl⟩
      rw [← hB] at hnx
      have hB' : Hid (B = X0 ++ C (k + 1) ++ List.replicate (4256 - 32 * (k + 1)) 0) := hB
      clear hB hXC hCl
      go_upto_region 10 with fail
      refine region_alloc 8 24 (v8 (zer 32)) 15 (by kernel_rfl) (by kernel_rfl) (by rfl) (by kernel_rfl) ?hal ?hh
      case hal =>
        intro a w o ho
        cases ho
        kernel_rfl
      case hh =>
        apply Exists.intro
        refine ⟨fun ι _ W hb hc => ?_, fun b w2 hb2 hbel2 hrow => ?_⟩
        · have t1 : ∀ i, Row (W i) (w.heap.size + 1) 24 (v8 seed) := fun i => z1.below (hb i) z1.lt
          have t3 : ∀ i, Row (W i) gl 55 (v8 H) := fun i => z3.below (hb i) z3.lt
          have tL : ∀ i, Laid (W i) := fun i => hL.below (zb.trans ((hb i).mono zb.size))
          simp only [List.take_succ_cons, List.take_zero]
          refine q_load_row 55 (.tmp 9) (by rfl) (by rfl) (gl) (by rfl) 55 _ _ t3 Tryd.underlying55 rfl (leaf_info hH) ?_
          simp only [Act.put, List.setIfInBounds_toArray, List.set_cons_succ, List.set_cons_zero]
          go_big_quiet_step (fail)
          go_big_quiet_step (fail)
          refine q_load_row 55 (.tmp 9) (by rfl) (by rfl) (gl) (by rfl) 55 _ _ t3 Tryd.underlying55 rfl (leaf_info hH) ?_
          simp only [Act.put, List.setIfInBounds_toArray, List.set_cons_succ, List.set_cons_zero]
          go_big_quiet_step (fail)
          refine q_load_row 24 (.tmp 6) (by rfl) (by rfl) (w.heap.size + 1) (by rfl) 24 _ _ t1 Tryd.underlying24 rfl (id_info hs) ?_
          simp only [Act.put, List.setIfInBounds_toArray, List.set_cons_succ, List.set_cons_zero]
          go_big_quiet_step ((go_at_call 31; exact (hx k _ (tL _) hlt).mono (fun e w' ⟨he, hw⟩ => ⟨he, hc _ _ hw⟩)))
          go_big_quiet_step ((go_at_call 30; exact (hz k _ (tL _) hlt).mono (fun e w' ⟨he, hw⟩ => ⟨he, hc _ _ hw⟩)))
          exact wpQuiet_nil rfl
        · simp only [List.drop_succ_cons, List.drop_zero, Act.put, List.setIfInBounds_toArray, List.set_cons_succ, List.set_cons_zero]
          refine store_row0 24 (.tmp 15) (.tmp 47) (by rfl) (by rfl) (by rfl) b (v8 (Y k)) (by rfl) (by rfl) 24 _ hrow (id_info hYk) (by rw [v8_size, v8_size, hYk, zer_len]) (v8_one _) ?_
          have y1 := (z1.below hbel2 (by omega)).setRowOther (g := b) (by omega) (v8 (Y k))
          have y3 := (z3.below hbel2 (by omega)).setRowOther (g := b) (by omega) (v8 (Y k))
          have y4 := (z4.below hbel2 (by omega)).setRowOther (g := b) (by omega) (v8 (Y k))
          have y5 := hrow.setRow (v8 (Y k))
          have yb := below_setRow (g := b) (zb.trans (hbel2.mono zb.size)) (by omega) (v8 (Y k))
          generalize w2.setRow b (v8 (Y k)) = w3 at y1 y3 y4 y5 yb ⊢
          have hbg : gk < b := by omega
          clear z1 z3 z4 zb hbel2 hrow
          have k1 : (36 : Int) + (k : Int) * 32 ≤ 4292 := by omega
          have k2 : (0 : Int) ≤ 36 + (k : Int) * 32 := by omega
          have k3 : ¬ 4292 = 36 + k * 32 := by omega
          go_upto_region 11 with fail
          refine wp_region_quiet_tail 6 (by kernel_rfl) (by kernel_rfl) ?_
          simp only [List.take_succ_cons, List.take_zero, List.drop_succ_cons, List.drop_zero]
          repeat (go_big_quiet_step (fail))
          refine wpQuiet_nil ?_
          rintro _ ⟨nq, rfl⟩
          refine copy8 (w := w3.drewN nq) (.tmp 52) (.tmp 53) 28 28 (by rfl) (by rfl) 5 Tryd.underlying28 (by kernel_rfl) (some ⟨gk, 36 + k * 32, none⟩) (some ⟨b, 0, none⟩) (4292 - (36 + k * 32)) (4292 - (36 + k * 32)) 32 32 (by rfl) (by rfl) (gk) (36 + k * 32) A 5 (y4.drewN nq) (Y k) (by rw [hYk]; omega) (fun _ => rfl) ((y5.drewN nq).bytes) (by rw [hYk, hAl]; omega) ?_
          simp only [Act.put, List.setIfInBounds_toArray, List.set_cons_succ, List.set_cons_zero]
          rw [show spl A (36 + k * 32) (Y k) = B by rw [show 36 + k * 32 = 36 + 32 * k by omega]; exact hnx.out, hYk]
          have x1 := (y1.drewN nq).setRowOther (g := gk) (by omega) (v8 B)
          have x3 := (y3.drewN nq).setRowOther (g := gk) (by omega) (v8 B)
          have x4 := (y4.drewN nq).setRow (v8 B)
          have xb := below_setRow (g := gk) (below_drewN yb nq) (by omega) (v8 B)
          generalize (w3.drewN nq).setRow gk (v8 B) = w4 at x1 x3 x4 xb ⊢
          clear y1 y3 y4 y5 yb
          go_wp2
          go_roundw
          case rel => exact ⟨k + 1, by omega, by go_num, x1, x3, by rw [← hB'.out]; exact x4, xb⟩
          case measure => simp [intOf]; omega
    · obtain rfl : k = 133 := by omega
      have z4' : Row wr gk 5 (v8 SG) := by rw [hsig'.out]; simpa using z4
      clear z4
      go_wp2
      go_ret
      exact ⟨gk, rfl, by omega, z4', zb⟩
end Go.Proofs.YtoebnkepeledmaaDoor
