/- Digits, chains and the key of ots. -/
import Derived.Test.YtoebnkepeledmaaDoorGd
namespace Go.Proofs.YtoebnkepeledmaaDoor

section
open Go.RowKit

def zer (n : Nat) : List Int := List.replicate n 0
theorem zer_len (n : Nat) : (zer n).length = n := by simp [zer]
theorem In8.append {a b : List Int} (ha : In8 a) (hb : In8 b) : In8 (a ++ b) := fun j => by
  by_cases h : j < a.length
  · have := ha j
    unfold gi at *
    simpa only [List.getD_eq_getElem?_getD, List.getElem?_append_left h] using this
  · have := hb (j - a.length)
    unfold gi at *
    simpa only [List.getD_eq_getElem?_getD, List.getElem?_append_right (by omega : a.length ≤ j)] using this
theorem in8_n2 (i : Int) : In8 (n2 i) := in8_of_all (by intro x hx; simp [n2] at hx; omega)
theorem in8_zeros (n : Nat) : In8 (List.replicate n 0) := in8_of_all (by intro x hx; have := List.eq_of_mem_replicate hx; omega)
theorem fullL_in8 (Q : List Int) (h : In8 Q) : In8 (fullL Q) := h.append (in8_n2 _)
theorem digsL_prefix (Q : List Int) (k : Nat) (hk : k < 133) : ((List.range k).map (digN Q) ++ List.replicate (133 - k) 0).set k (digN Q k) = (List.range (k + 1)).map (digN Q) ++ List.replicate (133 - (k + 1)) 0 := by
  have := set_end ((List.range k).map (digN Q)) (133 - k) (digN Q k) (by omega)
  simp only [List.length_map, List.length_range] at this
  rw [this, List.range_succ, List.map_append]
  rfl

set_option maxRecDepth 20000 in
set_option maxHeartbeats 1000000 in
theorem digits_any (Q : List Int) (w : World) (hQ : Q.length = 32) (h8 : In8 Q) :
    Calls Tryd.prog 38 #[.agg (v8 Q)] w fun e w' => e = .returned (.agg (v64 (digsL Q))) ∧ Below w.heap.size w w' := by
  have hzv : ∀ wx, (zeroValue 69).run Tryd.prog wx = .ok (.agg (v64 (zer 133))) wx := fun wx => by kernel_rfl
  go_enter Tryd.func38, Tryd.ntmps38
  go_upto_region 2 with fail
  have r0 : Row (World.alloc (World.alloc (World.alloc w (.cells (v8 Q) 24)) (.cells (v64 (zer 133)) 69)) (.cells (v8 (List.replicate 34 0)) 103)) w.heap.size 24 (v8 Q) := ((Row.new _ _ _).alloc _).alloc _
  have r1 : Row (World.alloc (World.alloc (World.alloc w (.cells (v8 Q) 24)) (.cells (v64 (zer 133)) 69)) (.cells (v8 (List.replicate 34 0)) 103)) (w.heap.size + 1) 69 (v64 (zer 133)) := (Row.newAt _ _ _ _ (by simp)).alloc _
  have r2 : Row (World.alloc (World.alloc (World.alloc w (.cells (v8 Q) 24)) (.cells (v64 (zer 133)) 69)) (.cells (v8 (List.replicate 34 0)) 103)) (w.heap.size + 2) 103 (v8 (List.replicate 34 0)) := Row.newAt _ _ _ _ (by simp)
  have b1 : Below w.heap.size w (World.alloc (World.alloc (World.alloc w (.cells (v8 Q) 24)) (.cells (v64 (zer 133)) 69)) (.cells (v8 (List.replicate 34 0)) 103)) := (((Below.refl _ _).alloc (Nat.le_refl _) _).alloc (by simp) _).alloc (by simp; omega) _
  change Code.wp _ _ _ _ ((World.alloc (World.alloc (World.alloc w (.cells (v8 Q) 24)) (.cells (v64 (zer 133)) 69)) (.cells (v8 (List.replicate 34 0)) 103)))
  generalize (World.alloc (World.alloc (World.alloc w (.cells (v8 Q) 24)) (.cells (v64 (zer 133)) 69)) (.cells (v8 (List.replicate 34 0)) 103)) = w1 at r0 r1 r2 b1 ⊢
  refine wp_region_quiet_tail 2 (by kernel_rfl) (by kernel_rfl) ?_
  simp only [List.take_succ_cons, List.take_zero, List.drop_succ_cons, List.drop_zero]
  repeat (go_big_quiet_step (fail))
  refine wpQuiet_nil ?_
  rintro _ ⟨nq, rfl⟩
  refine copy8 (w := w1.drewN nq) (.tmp 9) (.tmp 10) 28 28 (by rfl) (by rfl) 5 Tryd.underlying28 (by kernel_rfl) (some ⟨w.heap.size + 2, 0, none⟩) (some ⟨w.heap.size, 0, none⟩) 34 34 32 32 (by rfl) (by rfl) (w.heap.size + 2) (0) (List.replicate 34 0) 103 (r2.drewN nq) Q (by rw [hQ]; rfl) (fun _ => rfl) ((r0.drewN nq).bytes) (by simp; omega) ?_
  simp only [Act.put, List.setIfInBounds_toArray, List.set_cons_succ, List.set_cons_zero]
  rw [spl_zero, hQ, show ((32 : Nat) : Int) = 32 from rfl]
  have q1 := (r1.drewN nq).setRowOther (g := w.heap.size + 2) (by omega) (v8 (Q ++ List.replicate (34 - 32) 0))
  have q2 := (r2.drewN nq).setRow (v8 (Q ++ List.replicate (34 - 32) 0))
  have qb := below_setRow (g := w.heap.size + 2) (below_drewN b1 nq) (by omega) (v8 (Q ++ List.replicate (34 - 32) 0))
  generalize (w1.drewN nq).setRow (w.heap.size + 2) (v8 (Q ++ List.replicate (34 - 32) 0)) = w2 at q1 q2 qb ⊢
  clear r0 r1 r2 b1
  have hB8 : In8 (Q ++ List.replicate (34 - 32) 0) := h8.append (in8_zeros _)
  have hsum : sumN (Q ++ List.replicate (34 - 32) 0) 128 = sumN Q 128 := sumN_front _ _ _ (by omega)
  generalize hB0 : Q ++ List.replicate (34 - 32) 0 = B0 at q1 q2 qb hB8 hsum ⊢
  have hB0l : B0.length = 34 := by rw [← hB0, List.length_append, hQ]; rfl
  go_wp2
  go_loopw [4, 12] (fun s v wr => ∃ k : Nat, k ≤ 128 ∧ s = .int .i64 (sumN B0 k) ∧ v = .int .i64 (k : Int) ∧ Row wr (w.heap.size + 1) 69 (v64 (zer 133)) ∧ Row wr (w.heap.size + 2) 103 (v8 B0) ∧ Below w.heap.size w wr) (fun _ v _ => 128 - (intOf v).toNat)
  case atStart => exact ⟨0, by omega, rfl, rfl, q1, q2, qb⟩
  case round =>
    obtain ⟨k, hk, rfl, rfl, p1, p2, pb⟩ := hrel
    have hs := sumN_range B0 k
    by_cases hlt : k < 128
    · have c1 : wr.cell? ⟨w.heap.size + 2, k / 4, none⟩ = some _ := p2.cell8 (by omega)
      have hd := digit_any B0 k wr hB8
      rw [show ((k % 4 : Nat) : Int) = (k : Int) % 4 by omega] at hd
      have hdr := digN_range B0 k
      have hnx : sumN B0 k + (3 - digN B0 k) = sumN B0 (k + 1) := rfl
      go_wp2_with (go_at_call 62; (with_reducible refine Calls.mono hd ?_); rintro e w3 ⟨rfl, hb3⟩)
      go_roundw
      case rel => exact ⟨k + 1, by omega, by rw [← hnx], by go_num, p1.below hb3 p1.lt, p2.below hb3 p2.lt, pb.trans (hb3.mono pb.size)⟩
      case measure => simp [intOf]; omega
    · obtain rfl : k = 128 := by omega
      rw [hsum] at hs ⊢
      simp only [show ((128 : Nat) : Int) = 128 from rfl]
      clear q1 q2 qb
      have hc0 : wr.cell? ⟨w.heap.size + 2, 32, none⟩ = some _ := p2.cell8 (by omega)
      have hf0 : wr.frozen? ⟨w.heap.size + 2, 32, none⟩ = false := p2.frozen
      have u2 := p2.set8 32 (64 * sumN Q 128 / 256)
      have hc1 : (wr.setCell ⟨w.heap.size + 2, 32, none⟩ (.int .u8 (64 * sumN Q 128 / 256))).cell? ⟨w.heap.size + 2, 33, none⟩ = some _ := u2.cell8 (by rw [List.length_set]; omega)
      have hf1 : (wr.setCell ⟨w.heap.size + 2, 32, none⟩ (.int .u8 (64 * sumN Q 128 / 256))).frozen? ⟨w.heap.size + 2, 33, none⟩ = false := u2.frozen
      have x2 := u2.set8 33 (64 * sumN Q 128 % 256)
      have e2 : (B0.set 32 (64 * sumN Q 128 / 256)).set 33 (64 * sumN Q 128 % 256) = fullL Q := by
        have h1 := set_end Q (34 - 32) (64 * sumN Q 128 / 256) (by omega)
        have h2 := set_end (Q ++ [64 * sumN Q 128 / 256]) 1 (64 * sumN Q 128 % 256) (by omega)
        rw [List.length_append, List.length_singleton, hQ] at h2
        rw [hQ] at h1
        rw [← hB0, h1, h2]
        have h3 : 64 * sumN Q 128 / 256 % 256 = 64 * sumN Q 128 / 256 := by omega
        simp [fullL, n2, h3]
      rw [e2] at x2
      have x1 := (p1.setOther (a := ⟨w.heap.size + 2, 32, none⟩) (by show w.heap.size + 1 ≠ w.heap.size + 2; omega) (.int .u8 (64 * sumN Q 128 / 256))).setOther (a := ⟨w.heap.size + 2, 33, none⟩) (by show w.heap.size + 1 ≠ w.heap.size + 2; omega) (.int .u8 (64 * sumN Q 128 % 256))
      have xb := (pb.setCell (p := ⟨w.heap.size + 2, 32, none⟩) (by show w.heap.size ≤ w.heap.size + 2; omega) (.int .u8 (64 * sumN Q 128 / 256))).setCell (p := ⟨w.heap.size + 2, 33, none⟩) (by show w.heap.size ≤ w.heap.size + 2; omega) (.int .u8 (64 * sumN Q 128 % 256))
      generalize hck : 64 * sumN Q 128 = ck at *
      have hck0 : IntKind.i64.wrap ck = ck := by rw [IntKind.wrap_i64]; omega
      go_upto_region 12 with fail
      generalize (wr.setCell ⟨w.heap.size + 2, 32, none⟩ (.int .u8 (ck / 256))).setCell ⟨w.heap.size + 2, 33, none⟩ (.int .u8 (ck % 256)) = w4 at x1 x2 xb ⊢
      clear hc0 hf0 hc1 hf1 u2 p1 p2 pb e2
      have hx2 := x2.lt
      have hF8 := fullL_in8 Q h8
      have hFl : (fullL Q).length = 34 := by unfold fullL; rw [List.length_append, hQ]; rfl
      have y1 := x1.alloc (.cells (v64 (zer 133)) 69)
      have y2 := x2.alloc (.cells (v64 (zer 133)) 69)
      have y3 := Row.new w4 69 (v64 (zer 133))
      have yb := xb.alloc (by omega) (.cells (v64 (zer 133)) 69)
      obtain ⟨gA, hgA⟩ : ∃ gA, gA = w4.heap.size := ⟨_, rfl⟩
      have hgl : w.heap.size + 2 < gA := by omega
      go_wp2
      rw [← hgA] at y3 ⊢
      generalize w4.alloc (.cells (v64 (zer 133)) 69) = w5 at y1 y2 y3 yb ⊢
      clear hgA x1 x2 xb hx2
      have hdq : digsL Q = (List.range 133).map (digN (fullL Q)) := rfl
      generalize fullL Q = FQ at *
      go_loopw [35] (fun v wr => ∃ k : Nat, k ≤ 133 ∧ v = .int .i64 (k : Int) ∧ Row wr (w.heap.size + 1) 69 (v64 (zer 133)) ∧ Row wr (w.heap.size + 2) 103 (v8 FQ) ∧ Row wr gA 69 (v64 ((List.range k).map (digN FQ) ++ List.replicate (133 - k) 0)) ∧ Below w.heap.size w wr) (fun v _ => 133 - (intOf v).toNat)
      case atStart => exact ⟨0, by omega, rfl, y1, y2, y3, yb⟩
      case round =>
        clear y1 y2 y3 yb
        obtain ⟨k, hk, rfl, z1, z2, z3, zb⟩ := hrel
        by_cases hlt : k < 133
        · have c1 : wr.cell? ⟨w.heap.size + 2, k / 4, none⟩ = some _ := z2.cell8 (by omega)
          have hd := digit_any FQ k wr hF8
          rw [show ((k % 4 : Nat) : Int) = (k : Int) % 4 by omega] at hd
          have hpre := digsL_prefix FQ k hlt
          have hll : ((List.range k).map (digN FQ) ++ List.replicate (133 - k) 0).length = 133 := by simp; omega
          generalize (List.range k).map (digN FQ) ++ List.replicate (133 - k) 0 = A at *
          go_wp2_with (go_at_call 62; (with_reducible refine Calls.mono hd ?_); rintro e w6 ⟨rfl, hb6⟩; have z3' := z3.below hb6 z3.lt; have c2 : w6.cell? ⟨gA, k, none⟩ = some _ := z3'.cell64 (by omega); have f2 : w6.frozen? ⟨gA, k, none⟩ = false := z3'.frozen)
          go_roundw
          case rel => exact ⟨k + 1, by omega, by go_num, (z1.below hb6 z1.lt).setOther (by show w.heap.size + 1 ≠ gA; omega) _, (z2.below hb6 z2.lt).setOther (by show w.heap.size + 2 ≠ gA; omega) _, by rw [← hpre]; exact z3'.set64 k _, (zb.trans (hb6.mono zb.size)).setCell (by show w.heap.size ≤ gA; omega) _⟩
          case measure => simp [intOf]; omega
        · obtain rfl : k = 133 := by omega
          have z3' : Row wr gA 69 (v64 ((List.range 133).map (digN FQ))) := by simpa using z3
          clear z3
          have hll : ((List.range 133).map (digN FQ)).length = 133 := by simp
          have hi : (Tryd.prog.info? 69).map (·.size) = some (v64 ((List.range 133).map (digN FQ))).size := by rw [v64_size, hll]; kernel_rfl
          generalize (List.range 133).map (digN FQ) = A at *
          have hold : (v64 (zer 133)).size = (v64 A).size := by rw [v64_size, v64_size, hll, zer_len]
          go_wp2_with (first | (refine wpList_load_row (by rfl) 69 (.tmp 7) (by rfl) gA (by rfl) 69 (v64 A) (0, 0) _ z3' Tryd.underlying69 rfl hi ?_) | (refine store_row0 69 (.tmp 2) (.tmp 48) (by rfl) (by rfl) (by rfl) (w.heap.size + 1) (v64 A) (by rfl) (by rfl) 69 _ z1 hi hold (v64_one _) ?_))
          exact bodyPost_ret (results_cell_row Tryd.results38 _ _ (w.heap.size + 1) 69 (v64 A) (0, 0) _ rfl (z1.setRow _) Tryd.underlying69 rfl hi) rfl ⟨by rw [hdq], below_setRow zb (by omega) _⟩
end

section
open Go.RowKit

theorem zer_eq (n : Nat) : zer n = List.replicate n 0 := rfl
theorem zv4278 (wx : World) : (zeroValue 94).run Tryd.prog wx = .ok (.agg (v8 (zer 4278))) wx := by kernel_rfl
theorem zv32 (wx : World) : (zeroValue 24).run Tryd.prog wx = .ok (.agg (v8 (zer 32))) wx := by kernel_rfl
theorem info4278 {l : List Int} (h : l.length = 4278) : (Tryd.prog.info? 94).map (·.size) = some (v8 l).size := by rw [v8_size, h]; kernel_rfl
theorem links_info {l : List Int} (h : l.length = 4256) : (Tryd.prog.info? 58).map (·.size) = some (v8 l).size := by rw [v8_size, h]; kernel_rfl

set_option maxRecDepth 20000 in
set_option maxHeartbeats 300000 in
theorem public_any (S : List Int → List Int) (hS : Hash S) (H : List Int) (f : Nat → List Int) (w : World) (hL : Laid w) (hH : H.length = 20) (hf : ∀ i, (f i).length = 32) :
    Calls Tryd.prog 32 #[.agg (v8 H), .agg (v8 (catN f 133))] w fun e w' => e = .returned (.agg (v8 (topL S H f))) ∧ Below w.heap.size w w' := by
  have hHl : (H ++ n2 32896).length = 22 := by rw [List.length_append, hH, n2_len]
  have h95 : (Tryd.prog.info? 95).map (·.size) = some (v8 (H ++ n2 32896)).size := by rw [v8_size, hHl]; kernel_rfl
  have hT : topL S H f = S (H ++ n2 32896 ++ catN f 133) := rfl
  have hhead : ∀ wx, Calls Tryd.prog 58 #[.agg (v8 H), .int .u16 32896] wx fun e w' => e = .returned (.agg (v8 (H ++ n2 32896))) ∧ Below wx.heap.size wx w' := fun wx => head_any H 32896 wx hH
  generalize H ++ n2 32896 = X0 at *
  have hcl := catN_len hf
  have hidx : ∀ k : Nat, k < 133 → ∀ wx, (Instr.index 58 (.agg (v8 (catN f 133))) (.int .i64 (k : Int))).run Tryd.prog wx = .ok (.agg (v8 (f k))) wx := fun k hk wx =>
    run_index_sub 58 24 133 32 (catN f 133) (f k) .i64 k _ Tryd.underlying58 Tryd.underlying24 rfl (by kernel_rfl) hk (catN_cut hf 133 k hk).symm
  have hEl : (catN f 133).length = 4256 := hcl 133
  have hC0 : catN f 0 = [] := rfl
  have hCs' : Hid (∀ k, catN f (k + 1) = catN f k ++ f k) := fun _ => rfl
  have hcl' : Hid (∀ k, (catN f k).length = 32 * k) := hcl
  clear hcl
  generalize catN f = C at *
  obtain ⟨E, hE0⟩ : ∃ E, E = C 133 := ⟨_, rfl⟩
  rw [← hE0] at hEl hT ⊢
  rw [← hE0] at hidx
  have hE : Hid (E = C 133) := hE0
  clear hE0
  rw [hT]
  clear hT
  have hzv := zv4278
  go_enter Tryd.func32, Tryd.ntmps32
  go_upto_region 2 with fail
  have r0 : Row (World.alloc (World.alloc (World.alloc (World.alloc w (.cells (v8 H) 55)) (.cells (v8 E) 58)) (.cells (v8 (List.replicate 32 0)) 24)) (.cells (v8 (zer 4278)) 94)) w.heap.size 55 (v8 H) := (((Row.new _ _ _).alloc _).alloc _).alloc _
  have r1 : Row (World.alloc (World.alloc (World.alloc (World.alloc w (.cells (v8 H) 55)) (.cells (v8 E) 58)) (.cells (v8 (List.replicate 32 0)) 24)) (.cells (v8 (zer 4278)) 94)) (w.heap.size + 1) 58 (v8 E) := ((Row.newAt _ _ _ _ (by simp)).alloc _).alloc _
  have r2 : Row (World.alloc (World.alloc (World.alloc (World.alloc w (.cells (v8 H) 55)) (.cells (v8 E) 58)) (.cells (v8 (List.replicate 32 0)) 24)) (.cells (v8 (zer 4278)) 94)) (w.heap.size + 2) 24 (v8 (List.replicate 32 0)) := (Row.newAt _ _ _ _ (by simp)).alloc _
  have r3 : Row (World.alloc (World.alloc (World.alloc (World.alloc w (.cells (v8 H) 55)) (.cells (v8 E) 58)) (.cells (v8 (List.replicate 32 0)) 24)) (.cells (v8 (zer 4278)) 94)) (w.heap.size + 3) 94 (v8 (zer 4278)) := Row.newAt _ _ _ _ (by simp)
  have b1 : Below w.heap.size w (World.alloc (World.alloc (World.alloc (World.alloc w (.cells (v8 H) 55)) (.cells (v8 E) 58)) (.cells (v8 (List.replicate 32 0)) 24)) (.cells (v8 (zer 4278)) 94)) := ((((Below.refl _ _).alloc (Nat.le_refl _) _).alloc (by simp) _).alloc (by simp; omega) _).alloc (by simp; omega) _
  change Code.wp _ _ _ _ ((World.alloc (World.alloc (World.alloc (World.alloc w (.cells (v8 H) 55)) (.cells (v8 E) 58)) (.cells (v8 (List.replicate 32 0)) 24)) (.cells (v8 (zer 4278)) 94)))
  generalize (World.alloc (World.alloc (World.alloc (World.alloc w (.cells (v8 H) 55)) (.cells (v8 E) 58)) (.cells (v8 (List.replicate 32 0)) 24)) (.cells (v8 (zer 4278)) 94)) = w1 at r0 r1 r2 r3 b1 ⊢
  have hr3 := r3.lt
  clear hzv
  go_upto_region 3 with (first | (refine wpList_load_row (by rfl) 55 (.tmp 2) (by rfl) w.heap.size (by rfl) 55 (v8 H) (0, 0) _ r0 Tryd.underlying55 rfl (leaf_info hH) ?_) | (go_at_call 58; (with_reducible refine Calls.mono (hhead _) ?_); rintro e w3 ⟨rfl, hb3⟩) | (refine store_row0 95 (.tmp 6) (.tmp 10) (by rfl) (by rfl) (by rfl) w3.heap.size (v8 X0) (by rfl) (by rfl) 95 (v8 (List.replicate 22 0)) (Row.new w3 95 _) h95 (by rw [v8_size, v8_size, hHl]; simp) (v8_one _) ?_))
  have hs3 := hb3.size
  have p1 := ((r1.below hb3 (by omega)).alloc (.cells (v8 (List.replicate 22 0)) 95)).setRowOther (g := w3.heap.size) (by omega) (v8 X0)
  have p2 := ((r2.below hb3 (by omega)).alloc (.cells (v8 (List.replicate 22 0)) 95)).setRowOther (g := w3.heap.size) (by omega) (v8 X0)
  have p3 := ((r3.below hb3 (by omega)).alloc (.cells (v8 (List.replicate 22 0)) 95)).setRowOther (g := w3.heap.size) (by omega) (v8 X0)
  have p4 := (Row.new w3 95 (v8 (List.replicate 22 0))).setRow (v8 X0)
  have pb : Below w.heap.size w ((w3.alloc (.cells (v8 (List.replicate 22 0)) 95)).setRow w3.heap.size (v8 X0)) := below_setRow ((b1.trans (hb3.mono b1.size)).alloc (by omega) _) (by omega) _
  change Code.wp _ _ _ _ ((w3.alloc (.cells (v8 (List.replicate 22 0)) 95)).setRow w3.heap.size (v8 X0))
  have hg : w.heap.size + 3 < w3.heap.size := by omega
  generalize (w3.alloc (.cells (v8 (List.replicate 22 0)) 95)).setRow w3.heap.size (v8 X0) = w4 at p1 p2 p3 p4 pb ⊢
  refine wp_region_quiet_tail 2 (by kernel_rfl) (by kernel_rfl) ?_
  simp only [List.take_succ_cons, List.take_zero, List.drop_succ_cons, List.drop_zero]
  repeat (go_big_quiet_step (fail))
  refine wpQuiet_nil ?_
  rintro _ ⟨nq, rfl⟩
  refine copy8 (w := w4.drewN nq) (.tmp 11) (.tmp 12) 28 28 (by rfl) (by rfl) 5 Tryd.underlying28 (by kernel_rfl) (some ⟨w.heap.size + 3, 0, none⟩) (some ⟨w3.heap.size, 0, none⟩) 4278 4278 22 22 (by rfl) (by rfl) (w.heap.size + 3) (0) (zer 4278) 94 (p3.drewN nq) X0 (by rw [hHl]; rfl) (fun _ => rfl) ((p4.drewN nq).bytes) (by rw [hHl, zer_len]; omega) ?_
  simp only [Act.put, List.setIfInBounds_toArray, List.set_cons_succ, List.set_cons_zero]
  rw [hHl, show ((22 : Nat) : Int) = 22 from rfl, show spl (zer 4278) 0 X0 = X0 ++ List.replicate (4278 - 22) 0 by rw [zer_eq, spl_zero, hHl]]
  have q1 := (p1.drewN nq).setRowOther (g := w.heap.size + 3) (by omega) (v8 (X0 ++ List.replicate (4278 - 22) 0))
  have q2 := (p2.drewN nq).setRowOther (g := w.heap.size + 3) (by omega) (v8 (X0 ++ List.replicate (4278 - 22) 0))
  have q3 := (p3.drewN nq).setRow (v8 (X0 ++ List.replicate (4278 - 22) 0))
  have qb := below_setRow (g := w.heap.size + 3) (below_drewN pb nq) (by omega) (v8 (X0 ++ List.replicate (4278 - 22) 0))
  generalize (w4.drewN nq).setRow (w.heap.size + 3) (v8 (X0 ++ List.replicate (4278 - 22) 0)) = w5 at q1 q2 q3 qb ⊢
  clear r0 r1 r2 r3 b1 p1 p2 p3 p4 pb
  go_wp2_with (refine wpList_load_row (by rfl) 58 (.tmp 3) (by rfl) (w.heap.size + 1) (by rfl) 58 (v8 E) (0, 0) _ q1 Tryd.underlying58 rfl (links_info hEl) ?_)
  go_loopw [15] (fun v wr => ∃ k : Nat, k ≤ 133 ∧ v = .int .i64 (k : Int) ∧ Row wr (w.heap.size + 2) 24 (v8 (List.replicate 32 0)) ∧ Row wr (w.heap.size + 3) 94 (v8 (X0 ++ C k ++ List.replicate (4278 - (22 + 32 * k)) 0)) ∧ Below w.heap.size w wr) (fun v _ => 133 - (intOf v).toNat)
  case atStart => exact ⟨0, by omega, rfl, q2, by simpa [hC0] using q3, qb⟩
  case round =>
    clear q1 q2 q3 qb
    obtain ⟨k, hk, rfl, z2, z3, zb⟩ := hrel
    by_cases hlt : k < 133
    · have hix := hidx k hlt
      have hfk := hf k
      have hz32 := zv32
      have hz3 := z3.lt
      have hXl : (X0 ++ C k).length = 22 + 32 * k := by rw [List.length_append, hHl, hcl'.out k]
      have hnx : spl (X0 ++ C k ++ List.replicate (4278 - (22 + 32 * k)) 0) (22 + 32 * k) (f k) = X0 ++ C (k + 1) ++ List.replicate (4278 - (22 + 32 * (k + 1))) 0 := by
        have := spl_mid (X0 ++ C k) (f k) (4278 - (22 + 32 * k))
        rw [hXl, hfk] at this
        rw [this, hCs'.out k, ← List.append_assoc, show 4278 - (22 + 32 * k) - 32 = 4278 - (22 + 32 * (k + 1)) by omega]
      have hAl : (X0 ++ C k ++ List.replicate (4278 - (22 + 32 * k)) 0).length = 4278 := by rw [List.length_append, hXl]; simp; omega
      generalize X0 ++ C k ++ List.replicate (4278 - (22 + 32 * k)) 0 = A at *
      obtain ⟨B, hB⟩ : ∃ B, B = X0 ++ C (k + 1) ++ List.replicate (4278 - (22 + 32 * (k + 1))) 0 := ⟨_, rfl⟩
      rw [← hB] at hnx
      have hB' : Hid (B = X0 ++ C (k + 1) ++ List.replicate (4278 - (22 + 32 * (k + 1))) 0) := hB
      have hnx' : Hid (spl A (22 + 32 * k) (f k) = B) := hnx
      clear hB hnx hXl
      go_upto_region 7 with (refine store_row0 24 (.tmp 8) (.tmp 18) (by rfl) (by rfl) (by rfl) wr.heap.size (v8 (f k)) (by rfl) (by rfl) 24 (v8 (zer 32)) (Row.new wr 24 _) (id_info hfk) (by rw [v8_size, v8_size, hfk, zer_len]) (v8_one _) ?_)
      have y2 := (z2.alloc (.cells (v8 (zer 32)) 24)).setRowOther (g := wr.heap.size) (by omega) (v8 (f k))
      have y3 := (z3.alloc (.cells (v8 (zer 32)) 24)).setRowOther (g := wr.heap.size) (by omega) (v8 (f k))
      have y4 := (Row.new wr 24 (v8 (zer 32))).setRow (v8 (f k))
      have yb : Below w.heap.size w ((wr.alloc (.cells (v8 (zer 32)) 24)).setRow wr.heap.size (v8 (f k))) := below_setRow (zb.alloc (by omega) _) (by omega) _
      change Code.wp _ _ _ _ ((wr.alloc (.cells (v8 (zer 32)) 24)).setRow wr.heap.size (v8 (f k)))
      generalize (wr.alloc (.cells (v8 (zer 32)) 24)).setRow wr.heap.size (v8 (f k)) = w6 at y2 y3 y4 yb ⊢
      have k1 : (22 : Int) + (k : Int) * 32 ≤ 4278 := by omega
      have k2 : (0 : Int) ≤ 22 + (k : Int) * 32 := by omega
      have k3 : ¬ 4278 = 22 + k * 32 := by omega
      refine wp_region_quiet_tail 5 (by kernel_rfl) (by kernel_rfl) ?_
      simp only [List.take_succ_cons, List.take_zero, List.drop_succ_cons, List.drop_zero]
      repeat (go_big_quiet_step (fail))
      refine wpQuiet_nil ?_
      rintro _ ⟨nq, rfl⟩
      refine copy8 (w := w6.drewN nq) (.tmp 22) (.tmp 23) 28 28 (by rfl) (by rfl) 5 Tryd.underlying28 (by kernel_rfl) (some ⟨w.heap.size + 3, 22 + k * 32, none⟩) (some ⟨wr.heap.size, 0, none⟩) (4278 - (22 + k * 32)) (4278 - (22 + k * 32)) 32 32 (by rfl) (by rfl) (w.heap.size + 3) (22 + k * 32) A 94 (y3.drewN nq) (f k) (by rw [hfk]; omega) (fun _ => rfl) ((y4.drewN nq).bytes) (by rw [hfk, hAl]; omega) ?_
      simp only [Act.put, List.setIfInBounds_toArray, List.set_cons_succ, List.set_cons_zero]
      rw [show 22 + k * 32 = 22 + 32 * k by omega, hnx'.out]
      have u2 := (y2.drewN nq).setRowOther (g := w.heap.size + 3) (by omega) (v8 B)
      have u3 := (y3.drewN nq).setRow (v8 B)
      have ub := below_setRow (g := w.heap.size + 3) (below_drewN yb nq) (by omega) (v8 B)
      generalize (w6.drewN nq).setRow (w.heap.size + 3) (v8 B) = w7 at u2 u3 ub ⊢
      rw [hfk]
      go_wp2
      go_roundw
      case rel => exact ⟨k + 1, by omega, by go_num, u2, by rw [← hB'.out]; exact u3, ub⟩
      case measure => simp [intOf]; omega
    · obtain rfl : k = 133 := by omega
      have z3' : Row wr (w.heap.size + 3) 94 (v8 (X0 ++ E)) := by rw [hE.out]; simpa using z3
      clear z3
      have hXl : (X0 ++ E).length = 4278 := by rw [List.length_append, hHl, hEl]
      generalize hX : X0 ++ E = X at *
      have hsum := hS.sum X (some ⟨w.heap.size + 3, 0, none⟩) 4278 4278 wr hXl (by omega) (by omega) (hL.below zb) z3'.bytes
      have hu3 := z3'.lt
      have hsl := hS.len X
      go_wp2_with (first | (go_at_call 59; (with_reducible refine Calls.mono hsum ?_); rintro e w8 ⟨rfl, hb8⟩) | (refine store_row0 24 (.tmp 4) (.tmp 27) (by rfl) (by rfl) (by rfl) (w.heap.size + 2) (v8 (S X)) (by rfl) (by rfl) 24 _ (z2.below hb8 (by omega)) (id_info hsl) (by rw [v8_size, v8_size, hsl]; simp) (v8_one _) ?_))
      exact bodyPost_ret (results_cell_row Tryd.results32 _ _ (w.heap.size + 2) 24 (v8 (S X)) (0, 0) _ rfl ((z2.below hb8 (by omega)).setRow _) Tryd.underlying24 rfl (id_info hsl)) rfl ⟨by rw [hX], below_setRow (zb.trans (hb8.mono zb.size)) (by omega) _⟩
end

section
open Go.RowKit

theorem zv4256 (wx : World) : (zeroValue 58).run Tryd.prog wx = .ok (.agg (v8 (zer 4256))) wx := by kernel_rfl
theorem zv20 (wx : World) : (zeroValue 55).run Tryd.prog wx = .ok (.agg (v8 (zer 20))) wx := by kernel_rfl
theorem name_info {l : List Int} (h : l.length = 16) : (Tryd.prog.info? 22).map (·.size) = some (v8 l).size := by rw [v8_size, h]; kernel_rfl

set_option maxRecDepth 20000 in
set_option maxHeartbeats 300000 in
theorem Public_any (S : List Int → List Int) (hS : Hash S) (nm seed : List Int) (q : Int) (w : World) (hL : Laid w) (hn : nm.length = 16) (hs : seed.length = 32) :
    Calls Tryd.prog 15 #[.agg (v8 nm), .int .i64 q, .agg (v8 seed)] w fun e w' => e = .returned (.agg (v8 (pubL S (nm ++ n4 q) seed))) ∧ Below w.heap.size w w' := by
  have hlo := fun wx => leafOf_any nm q wx hn
  have hH : (nm ++ n4 q).length = 20 := by rw [List.length_append, hn, n4_len]
  generalize nm ++ n4 q = H at *
  have hx : ∀ (k : Nat) wx, Laid wx → k < 133 → Calls Tryd.prog 31 #[.agg (v8 H), .int .i64 (k : Int), .agg (v8 seed)] wx fun e w' => e = .returned (.agg (v8 (xL S H seed k))) ∧ Below wx.heap.size wx w' := fun k wx hl hk =>
    start_any S hS H seed k wx hl hH hs (by omega) (by omega)
  have hy : ∀ (k : Nat) wx, Laid wx → k < 133 → Calls Tryd.prog 30 #[.agg (v8 H), .int .i64 (k : Int), .int .i64 0, .int .i64 3, .agg (v8 (xL S H seed k))] wx fun e w' => e = .returned (.agg (v8 (yL S H seed k))) ∧ Below wx.heap.size wx w' := fun k wx hl hk =>
    walk_any S hS H (xL S H seed k) k 0 3 wx hl hH (hS.len _) (by omega) (by omega) (by omega)
  have hyl : ∀ i, (yL S H seed i).length = 32 := yL_len (fun l => hS.len l) H seed
  have hpub : ∀ wx, Laid wx → Calls Tryd.prog 32 #[.agg (v8 H), .agg (v8 (catN (yL S H seed) 133))] wx fun e w' => e = .returned (.agg (v8 (pubL S H seed))) ∧ Below wx.heap.size wx w' := fun wx hl => public_any S hS H (yL S H seed) wx hl hH hyl
  have hPl : (pubL S H seed).length = 32 := hS.len _
  have hcl' : Hid (∀ k, (catN (yL S H seed) k).length = 32 * k) := catN_len hyl
  have hC0 : catN (yL S H seed) 0 = [] := rfl
  have hCs' : Hid (∀ k, catN (yL S H seed) (k + 1) = catN (yL S H seed) k ++ yL S H seed k) := fun _ => rfl
  generalize catN (yL S H seed) = C at *
  generalize pubL S H seed = PK at *
  generalize yL S H seed = Y at *
  have hxl : ∀ k : Int, (xL S H seed k).length = 32 := fun k => hS.len _
  generalize xL S H seed = X at *
  have z20 := zv20
  have z32 := zv32
  have z4256 := zv4256
  go_enter Tryd.func15, Tryd.ntmps15
  go_upto_region 1 with fail
  have r0 : Row (World.alloc (World.alloc (World.alloc w (.cells (v8 nm) 22)) (.cells (v8 seed) 24)) (.cells (v8 (zer 32)) 24)) w.heap.size 22 (v8 nm) := ((Row.new _ _ _).alloc _).alloc _
  have r1 : Row (World.alloc (World.alloc (World.alloc w (.cells (v8 nm) 22)) (.cells (v8 seed) 24)) (.cells (v8 (zer 32)) 24)) (w.heap.size + 1) 24 (v8 seed) := (Row.newAt _ _ _ _ (by simp)).alloc _
  have r2 : Row (World.alloc (World.alloc (World.alloc w (.cells (v8 nm) 22)) (.cells (v8 seed) 24)) (.cells (v8 (zer 32)) 24)) (w.heap.size + 2) 24 (v8 (zer 32)) := Row.newAt _ _ _ _ (by simp)
  have b1 : Below w.heap.size w (World.alloc (World.alloc (World.alloc w (.cells (v8 nm) 22)) (.cells (v8 seed) 24)) (.cells (v8 (zer 32)) 24)) := (((Below.refl _ _).alloc (Nat.le_refl _) _).alloc (by simp) _).alloc (by simp; omega) _
  change Code.wp _ _ _ _ ((World.alloc (World.alloc (World.alloc w (.cells (v8 nm) 22)) (.cells (v8 seed) 24)) (.cells (v8 (zer 32)) 24)))
  generalize (World.alloc (World.alloc (World.alloc w (.cells (v8 nm) 22)) (.cells (v8 seed) 24)) (.cells (v8 (zer 32)) 24)) = w1 at r0 r1 r2 b1 ⊢
  have hr2 := r2.lt
  go_wp2_with (first | (refine wpList_load_row (by rfl) 22 (.tmp 3) (by rfl) w.heap.size (by rfl) 22 (v8 nm) (0, 0) _ r0 Tryd.underlying22 rfl (name_info hn) ?_) | (go_at_call 29; (with_reducible refine Calls.mono (hlo _) ?_); rintro e w3 ⟨rfl, hb3⟩) | (refine store_row0 55 (.tmp 7) (.tmp 12) (by rfl) (by rfl) (by rfl) w3.heap.size (v8 H) (by rfl) (by rfl) 55 (v8 (zer 20)) (Row.new w3 55 _) (leaf_info hH) (by rw [v8_size, v8_size, hH, zer_len]) (v8_one _) ?_))
  have hs3 := hb3.size
  have p1 := (((r1.below hb3 (by omega)).alloc (.cells (v8 (zer 20)) 55)).setRowOther (g := w3.heap.size) (by omega) (v8 H)).alloc (.cells (v8 (zer 4256)) 58)
  have p2 := (((r2.below hb3 (by omega)).alloc (.cells (v8 (zer 20)) 55)).setRowOther (g := w3.heap.size) (by omega) (v8 H)).alloc (.cells (v8 (zer 4256)) 58)
  have p3 := ((Row.new w3 55 (v8 (zer 20))).setRow (v8 H)).alloc (.cells (v8 (zer 4256)) 58)
  have p4 : Row (((w3.alloc (.cells (v8 (zer 20)) 55)).setRow w3.heap.size (v8 H)).alloc (.cells (v8 (zer 4256)) 58)) (w3.heap.size + 1) 58 (v8 (zer 4256)) := Row.newAt _ _ _ _ (by simp)
  have pb : Below w.heap.size w (((w3.alloc (.cells (v8 (zer 20)) 55)).setRow w3.heap.size (v8 H)).alloc (.cells (v8 (zer 4256)) 58)) := (below_setRow ((b1.trans (hb3.mono b1.size)).alloc (by omega) _) (by omega) _).alloc (by simp; omega) _
  obtain ⟨gl, hgl⟩ : ∃ gl, gl = w3.heap.size := ⟨_, rfl⟩
  have hg : w.heap.size + 2 < gl := by omega
  change Code.wp _ _ _ _ (((w3.alloc (.cells (v8 (zer 20)) 55)).setRow w3.heap.size (v8 H)).alloc (.cells (v8 (zer 4256)) 58))
  rw [← hgl] at p1 p2 p3 p4 pb ⊢
  generalize ((w3.alloc (.cells (v8 (zer 20)) 55)).setRow gl (v8 H)).alloc (.cells (v8 (zer 4256)) 58) = w4 at p1 p2 p3 p4 pb ⊢
  clear hgl r0 r1 r2 b1 hb3 hs3 z20 z4256
  go_loopw [13] (fun v wr => ∃ k : Nat, k ≤ 133 ∧ v = .int .i64 (k : Int) ∧ Row wr (w.heap.size + 1) 24 (v8 seed) ∧ Row wr (w.heap.size + 2) 24 (v8 (zer 32)) ∧ Row wr gl 55 (v8 H) ∧ Row wr (gl + 1) 58 (v8 (C k ++ List.replicate (4256 - 32 * k) 0)) ∧ Below w.heap.size w wr) (fun v _ => 133 - (intOf v).toNat)
  case atStart => exact ⟨0, by omega, rfl, p1, p2, p3, by simpa [hC0, zer] using p4, pb⟩
  case round =>
    clear p1 p2 p3 p4 pb
    obtain ⟨k, hk, rfl, z1, z2, z3, z4, zb⟩ := hrel
    by_cases hlt : k < 133
    · have hCl := hcl'.out k
      have hYk := hyl k
      have hXk := hxl k
      have hnx : Hid (spl (C k ++ List.replicate (4256 - 32 * k) 0) (32 * k) (Y k) = C (k + 1) ++ List.replicate (4256 - 32 * (k + 1)) 0) := by
        have := spl_mid (C k) (Y k) (4256 - 32 * k)
        rw [hCl, hYk] at this
        show _ = _
        rw [this, hCs'.out k, show 4256 - 32 * k - 32 = 4256 - 32 * (k + 1) by omega]
      have hAl : (C k ++ List.replicate (4256 - 32 * k) 0).length = 4256 := by rw [List.length_append, hCl]; simp; omega
      generalize C k ++ List.replicate (4256 - 32 * k) 0 = A at *
      obtain ⟨B, hB⟩ : ∃ B, B = C (k + 1) ++ List.replicate (4256 - 32 * (k + 1)) 0 := ⟨_, rfl⟩
      rw [← hB] at hnx
      have hB' : Hid (B = C (k + 1) ++ List.replicate (4256 - 32 * (k + 1)) 0) := hB
      clear hB
      go_upto_region 6 with fail
      refine region_tail 9 (by kernel_rfl) (by kernel_rfl) (by kernel_rfl) ?_
      apply Exists.intro
      refine ⟨fun ι _ W hb hc => ?_, fun w6 hb6 => ?_⟩
      · have t1 : ∀ i, Row (W i) (w.heap.size + 1) 24 (v8 seed) := fun i => z1.below (hb i) z1.lt
        have t3 : ∀ i, Row (W i) gl 55 (v8 H) := fun i => z3.below (hb i) z3.lt
        have tL : ∀ i, Laid (W i) := fun i => hL.below (zb.trans ((hb i).mono zb.size))
        simp only [List.take_succ_cons, List.take_zero]
        go_big_quiet_step (fail)
        refine q_load_row 55 (.tmp 7) (by rfl) (by rfl) (gl) (by rfl) 55 _ _ t3 Tryd.underlying55 rfl (leaf_info hH) ?_
        simp only [Act.put, List.setIfInBounds_toArray, List.set_cons_succ, List.set_cons_zero]
        go_big_quiet_step (fail)
        refine q_load_row 55 (.tmp 7) (by rfl) (by rfl) (gl) (by rfl) 55 _ _ t3 Tryd.underlying55 rfl (leaf_info hH) ?_
        simp only [Act.put, List.setIfInBounds_toArray, List.set_cons_succ, List.set_cons_zero]
        go_big_quiet_step (fail)
        refine q_load_row 24 (.tmp 5) (by rfl) (by rfl) (w.heap.size + 1) (by rfl) 24 _ _ t1 Tryd.underlying24 rfl (id_info hs) ?_
        simp only [Act.put, List.setIfInBounds_toArray, List.set_cons_succ, List.set_cons_zero]
        go_big_quiet_step ((go_at_call 31; exact (hx k _ (tL _) hlt).mono (fun e w' ⟨he, hw⟩ => ⟨he, hc _ _ hw⟩)))
        go_big_quiet_step ((go_at_call 30; exact (hy k _ (tL _) hlt).mono (fun e w' ⟨he, hw⟩ => ⟨he, hc _ _ hw⟩)))
        go_big_quiet_step (fail)
        exact wpQuiet_nil rfl
      · simp only [List.drop_succ_cons, List.drop_zero]
        have v1 := z1.below hb6 z1.lt
        have v2 := z2.below hb6 z2.lt
        have v3 := z3.below hb6 z3.lt
        have v4 := z4.below hb6 z4.lt
        have vb := zb.trans (hb6.mono zb.size)
        refine store_mid8 24 (.tmp 24) (.tmp 23) (by rfl) (by rfl) (by rfl) (gl + 1) (k * 32) (Y k) (by rfl) (by rfl) 58 A v4 (id_info hYk) (by rw [hYk, hAl]; omega) ?_
        rw [show spl A (k * 32) (Y k) = B by rw [show k * 32 = 32 * k by omega]; exact hnx.out]
        have u1 := v1.setRowOther (g := gl + 1) (by omega) (v8 B)
        have u2 := v2.setRowOther (g := gl + 1) (by omega) (v8 B)
        have u3 := v3.setRowOther (g := gl + 1) (by omega) (v8 B)
        have u4 := v4.setRow (v8 B)
        have ub := below_setRow (g := gl + 1) vb (by omega) (v8 B)
        generalize w6.setRow (gl + 1) (v8 B) = w7 at u1 u2 u3 u4 ub ⊢
        clear v1 v2 v3 v4 vb z1 z2 z3 z4 zb hb6
        go_wp2
        go_roundw
        case rel => exact ⟨k + 1, by omega, by go_num, u1, u2, u3, by rw [← hB'.out]; exact u4, ub⟩
        case measure => simp [intOf]; omega
    · obtain rfl : k = 133 := by omega
      have z4' : Row wr (gl + 1) 58 (v8 (C 133)) := by simpa using z4
      clear z4
      have hEl : (C 133).length = 4256 := hcl'.out 133
      have hp := hpub wr (hL.below zb)
      generalize C 133 = E at *
      have hz4 := z4'.lt
      go_wp2_with (first | (refine wpList_load_row (by rfl) 55 (.tmp 7) (by rfl) gl (by rfl) 55 (v8 H) (0, 0) _ z3 Tryd.underlying55 rfl (leaf_info hH) ?_) | (refine wpList_load_row (by rfl) 58 (.tmp 8) (by rfl) (gl + 1) (by rfl) 58 (v8 E) (0, 0) _ z4' Tryd.underlying58 rfl (links_info hEl) ?_) | (go_at_call 32; (with_reducible refine Calls.mono hp ?_); rintro e w8 ⟨rfl, hb8⟩) | (refine store_row0 24 (.tmp 6) (.tmp 28) (by rfl) (by rfl) (by rfl) (w.heap.size + 2) (v8 PK) (by rfl) (by rfl) 24 _ (z2.below hb8 (by omega)) (id_info hPl) (by rw [v8_size, v8_size, hPl, zer_len]) (v8_one _) ?_))
      exact bodyPost_ret (results_cell_row Tryd.results15 _ _ (w.heap.size + 2) 24 (v8 PK) (0, 0) _ rfl ((z2.below hb8 (by omega)).setRow _) Tryd.underlying24 rfl (id_info hPl)) rfl ⟨rfl, below_setRow (zb.trans (hb8.mono zb.size)) (by omega) _⟩
end

end Go.Proofs.YtoebnkepeledmaaDoor
