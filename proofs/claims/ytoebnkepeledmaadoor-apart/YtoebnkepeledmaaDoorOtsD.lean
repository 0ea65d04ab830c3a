/- Of ots: the digits of a hash. No old memory turns. -/
import Derived.Test.YtoebnkepeledmaaDoorOtsC
namespace Go.Proofs.YtoebnkepeledmaaDoor
open Go.RowKit

def zer (n : Nat) : List Int := List.replicate n 0
theorem zer_len (n : Nat) : (zer n).length = n := by simp [zer]
theorem In8.append {a b : List Int} (ha : In8 a) (hb : In8 b) : In8 (a ++ b) := fun j => by
  by_cases h : j < a.length
  · have := ha j
    unfold gi at *
    simpa only [List.getD_eq_getElem?_getD, List.getElem?_append_left h] using this
  · have := hb (j - a.length)
    unfold gi at *
    simpa only [List.getD_eq_getElem?_getD, List.getElem?_append_right (by omega : a.length ≤ j)] using this
theorem in8_n2 (i : Int) : In8 (n2 i) := in8_of_all (by intro x hx; simp [n2] at hx; omega)
theorem in8_zeros (n : Nat) : In8 (List.replicate n 0) := in8_of_all (by intro x hx; have := List.eq_of_mem_replicate hx; omega)
theorem fullL_in8 (Q : List Int) (h : In8 Q) : In8 (fullL Q) := h.append (in8_n2 _)
theorem digsL_prefix (Q : List Int) (k : Nat) (hk : k < 133) : ((List.range k).map (digN Q) ++ List.replicate (133 - k) 0).set k (digN Q k) = (List.range (k + 1)).map (digN Q) ++ List.replicate (133 - (k + 1)) 0 := by
  have := set_end ((List.range k).map (digN Q)) (133 - k) (digN Q k) (by omega)
  simp only [List.length_map, List.length_range] at this
  rw [this, List.range_succ, List.map_append]
  rfl

set_option maxRecDepth 20000 in
set_option maxHeartbeats 1000000 in
theorem digits_any (Q : List Int) (w : World) (hQ : Q.length = 32) (h8 : In8 Q) :
    Calls Tryd.prog 38 #[.agg (v8 Q)] w fun e w' => e = .returned (.agg (v64 (digsL Q))) ∧ Below w.heap.size w w' := by
  have hzv : ∀ wx, (zeroValue 69).run Tryd.prog wx = .ok (.agg (v64 (zer 133))) wx := fun wx => by kernel_rfl
  go_enter Tryd.func38, Tryd.ntmps38
  go_upto_region 2 with fail
  have r0 : Row (World.alloc (World.alloc (World.alloc w (.cells (v8 Q) 24)) (.cells (v64 (zer 133)) 69)) (.cells (v8 (List.replicate 34 0)) 103)) w.heap.size 24 (v8 Q) := ((Row.new _ _ _).alloc _).alloc _
  have r1 : Row (World.alloc (World.alloc (World.alloc w (.cells (v8 Q) 24)) (.cells (v64 (zer 133)) 69)) (.cells (v8 (List.replicate 34 0)) 103)) (w.heap.size + 1) 69 (v64 (zer 133)) := (Row.newAt _ _ _ _ (by simp)).alloc _
  have r2 : Row (World.alloc (World.alloc (World.alloc w (.cells (v8 Q) 24)) (.cells (v64 (zer 133)) 69)) (.cells (v8 (List.replicate 34 0)) 103)) (w.heap.size + 2) 103 (v8 (List.replicate 34 0)) := Row.newAt _ _ _ _ (by simp)
  have b1 : Below w.heap.size w (World.alloc (World.alloc (World.alloc w (.cells (v8 Q) 24)) (.cells (v64 (zer 133)) 69)) (.cells (v8 (List.replicate 34 0)) 103)) := (((Below.refl _ _).alloc (Nat.le_refl _) _).alloc (by simp) _).alloc (by simp; omega) _
  change Code.wp _ _ _ _ ((World.alloc (World.alloc (World.alloc w (.cells (v8 Q) 24)) (.cells (v64 (zer 133)) 69)) (.cells (v8 (List.replicate 34 0)) 103)))
  generalize (World.alloc (World.alloc (World.alloc w (.cells (v8 Q) 24)) (.cells (v64 (zer 133)) 69)) (.cells (v8 (List.replicate 34 0)) 103)) = w1 at r0 r1 r2 b1 ⊢
  refine wp_region_quiet_tail 2 (by kernel_rfl) (by kernel_rfl) ?_
  simp only [List.take_succ_cons, List.take_zero, List.drop_succ_cons, List.drop_zero]
  repeat (go_big_quiet_step (fail))
  refine wpQuiet_nil ?_
  rintro _ ⟨nq, rfl⟩
  refine copy8 (w := w1.drewN nq) (.tmp 9) (.tmp 10) 28 28 (by rfl) (by rfl) 5 Tryd.underlying28 (by kernel_rfl) (some ⟨w.heap.size + 2, 0, none⟩) (some ⟨w.heap.size, 0, none⟩) 34 34 32 32 (by rfl) (by rfl) (w.heap.size + 2) (0) (List.replicate 34 0) 103 (r2.drewN nq) Q (by rw [hQ]; rfl) (fun _ => rfl) ((r0.drewN nq).bytes) (by simp; omega) ?_
  simp only [Act.put, List.setIfInBounds_toArray, List.set_cons_succ, List.set_cons_zero]
  rw [spl_zero, hQ, show ((32 : Nat) : Int) = 32 from rfl]
  have q1 := (r1.drewN nq).setRowOther (g := w.heap.size + 2) (by omega) (v8 (Q ++ List.replicate (34 - 32) 0))
  have q2 := (r2.drewN nq).setRow (v8 (Q ++ List.replicate (34 - 32) 0))
  have qb := below_setRow (g := w.heap.size + 2) (below_drewN b1 nq) (by omega) (v8 (Q ++ List.replicate (34 - 32) 0))
  generalize (w1.drewN nq).setRow (w.heap.size + 2) (v8 (Q ++ List.replicate (34 - 32) 0)) = w2 at q1 q2 qb ⊢
  clear r0 r1 r2 b1
  have hB8 : In8 (Q ++ List.replicate (34 - 32) 0) := h8.append (in8_zeros _)
  have hsum : sumN (Q ++ List.replicate (34 - 32) 0) 128 = sumN Q 128 := sumN_front _ _ _ (by omega)
  generalize hB0 : Q ++ List.replicate (34 - 32) 0 = B0 at q1 q2 qb hB8 hsum ⊢
  have hB0l : B0.length = 34 := by rw [← hB0, List.length_append, hQ]; rfl
  go_wp2
  go_loopw [4, 12] (fun s v wr => ∃ k : Nat, k ≤ 128 ∧ s = .int .i64 (sumN B0 k) ∧ v = .int .i64 (k : Int) ∧ Row wr (w.heap.size + 1) 69 (v64 (zer 133)) ∧ Row wr (w.heap.size + 2) 103 (v8 B0) ∧ Below w.heap.size w wr) (fun _ v _ => 128 - (intOf v).toNat)
  case atStart => exact ⟨0, by omega, rfl, rfl, q1, q2, qb⟩
  case round =>
    obtain ⟨k, hk, rfl, rfl, p1, p2, pb⟩ := hrel
    have hs := sumN_range B0 k
    by_cases hlt : k < 128
    · have c1 : wr.cell? ⟨w.heap.size + 2, k / 4, none⟩ = some _ := p2.cell8 (by omega)
      have hd := digit_any B0 k wr hB8
      rw [show ((k % 4 : Nat) : Int) = (k : Int) % 4 by omega] at hd
      have hdr := digN_range B0 k
      have hnx : sumN B0 k + (3 - digN B0 k) = sumN B0 (k + 1) := rfl
      go_wp2_with (go_at_call 62; (with_reducible refine Calls.mono hd ?_); rintro e w3 ⟨rfl, hb3⟩)
      go_roundw
      case rel => exact ⟨k + 1, by omega, by rw [← hnx], by go_num, p1.below hb3 p1.lt, p2.below hb3 p2.lt, pb.trans (hb3.mono pb.size)⟩
      case measure => simp [intOf]; omega
    · obtain rfl : k = 128 := by omega
      rw [hsum] at hs ⊢
      simp only [show ((128 : Nat) : Int) = 128 from rfl]
      clear q1 q2 qb
      have hc0 : wr.cell? ⟨w.heap.size + 2, 32, none⟩ = some _ := p2.cell8 (by omega)
      have hf0 : wr.frozen? ⟨w.heap.size + 2, 32, none⟩ = false := p2.frozen
      have u2 := p2.set8 32 (64 * sumN Q 128 / 256)
      have hc1 : (wr.setCell ⟨w.heap.size + 2, 32, none⟩ (.int .u8 (64 * sumN Q 128 / 256))).cell? ⟨w.heap.size + 2, 33, none⟩ = some _ := u2.cell8 (by rw [List.length_set]; omega)
      have hf1 : (wr.setCell ⟨w.heap.size + 2, 32, none⟩ (.int .u8 (64 * sumN Q 128 / 256))).frozen? ⟨w.heap.size + 2, 33, none⟩ = false := u2.frozen
      have x2 := u2.set8 33 (64 * sumN Q 128 % 256)
      have e2 : (B0.set 32 (64 * sumN Q 128 / 256)).set 33 (64 * sumN Q 128 % 256) = fullL Q := by
        have h1 := set_end Q (34 - 32) (64 * sumN Q 128 / 256) (by omega)
        have h2 := set_end (Q ++ [64 * sumN Q 128 / 256]) 1 (64 * sumN Q 128 % 256) (by omega)
        rw [List.length_append, List.length_singleton, hQ] at h2
        rw [hQ] at h1
        rw [← hB0, h1, h2]
        have h3 : 64 * sumN Q 128 / 256 % 256 = 64 * sumN Q 128 / 256 := by omega
        simp [fullL, n2, h3]
      rw [e2] at x2
      have x1 := (p1.setOther (a := ⟨w.heap.size + 2, 32, none⟩) (by show w.heap.size + 1 ≠ w.heap.size + 2; omega) (.int .u8 (64 * sumN Q 128 / 256))).setOther (a := ⟨w.heap.size + 2, 33, none⟩) (by show w.heap.size + 1 ≠ w.heap.size + 2; omega) (.int .u8 (64 * sumN Q 128 % 256))
      have xb := (pb.setCell (p := ⟨w.heap.size + 2, 32, none⟩) (by show w.heap.size ≤ w.heap.size + 2; omega) (.int .u8 (64 * sumN Q 128 / 256))).setCell (p := ⟨w.heap.size + 2, 33, none⟩) (by show w.heap.size ≤ w.heap.size + 2; omega) (.int .u8 (64 * sumN Q 128 % 256))
      generalize hck : 64 * sumN Q 128 = ck at *
      have hck0 : IntKind.i64.wrap ck = ck := by rw [IntKind.wrap_i64]; omega
      go_upto_region 12 with fail
      generalize (wr.setCell ⟨w.heap.size + 2, 32, none⟩ (.int .u8 (ck / 256))).setCell ⟨w.heap.size + 2, 33, none⟩ (.int .u8 (ck % 256)) = w4 at x1 x2 xb ⊢
      clear hc0 hf0 hc1 hf1 u2 p1 p2 pb e2
      have hx2 := x2.lt
      have hF8 := fullL_in8 Q h8
      have hFl : (fullL Q).length = 34 := by unfold fullL; rw [List.length_append, hQ]; rfl
      have y1 := x1.alloc (.cells (v64 (zer 133)) 69)
      have y2 := x2.alloc (.cells (v64 (zer 133)) 69)
      have y3 := Row.new w4 69 (v64 (zer 133))
      have yb := xb.alloc (by omega) (.cells (v64 (zer 133)) 69)
      obtain ⟨gA, hgA⟩ : ∃ gA, gA = w4.heap.size := ⟨_, rfl⟩
      have hgl : w.heap.size + 2 < gA := by omega
      go_wp2
      rw [← hgA] at y3 ⊢
      generalize w4.alloc (.cells (v64 (zer 133)) 69) = w5 at y1 y2 y3 yb ⊢
      clear hgA x1 x2 xb hx2
      have hdq : digsL Q = (List.range 133).map (digN (fullL Q)) := rfl
      generalize fullL Q = FQ at *
      go_loopw [35] (fun v wr => ∃ k : Nat, k ≤ 133 ∧ v = .int .i64 (k : Int) ∧ Row wr (w.heap.size + 1) 69 (v64 (zer 133)) ∧ Row wr (w.heap.size + 2) 103 (v8 FQ) ∧ Row wr gA 69 (v64 ((List.range k).map (digN FQ) ++ List.replicate (133 - k) 0)) ∧ Below w.heap.size w wr) (fun v _ => 133 - (intOf v).toNat)
      case atStart => exact ⟨0, by omega, rfl, y1, y2, y3, yb⟩
      case round =>
        clear y1 y2 y3 yb
        obtain ⟨k, hk, rfl, z1, z2, z3, zb⟩ := hrel
        by_cases hlt : k < 133
        · have c1 : wr.cell? ⟨w.heap.size + 2, k / 4, none⟩ = some _ := z2.cell8 (by omega)
          have hd := digit_any FQ k wr hF8
          rw [show ((k % 4 : Nat) : Int) = (k : Int) % 4 by omega] at hd
          have hpre := digsL_prefix FQ k hlt
          have hll : ((List.range k).map (digN FQ) ++ List.replicate (133 - k) 0).length = 133 := by simp; omega
          generalize (List.range k).map (digN FQ) ++ List.replicate (133 - k) 0 = A at *
          go_wp2_with (go_at_call 62; (with_reducible refine Calls.mono hd ?_); rintro e w6 ⟨rfl, hb6⟩; have z3' := z3.below hb6 z3.lt; have c2 : w6.cell? ⟨gA, k, none⟩ = some _ := z3'.cell64 (by omega); have f2 : w6.frozen? ⟨gA, k, none⟩ = false := z3'.frozen)
          go_roundw
          case rel => exact ⟨k + 1, by omega, by go_num, (z1.below hb6 z1.lt).setOther (by show w.heap.size + 1 ≠ gA; omega) _, (z2.below hb6 z2.lt).setOther (by show w.heap.size + 2 ≠ gA; omega) _, by rw [← hpre]; exact z3'.set64 k _, (zb.trans (hb6.mono zb.size)).setCell (by show w.heap.size ≤ gA; omega) _⟩
          case measure => simp [intOf]; omega
        · obtain rfl : k = 133 := by omega
          have z3' : Row wr gA 69 (v64 ((List.range 133).map (digN FQ))) := by simpa using z3
          clear z3
          have hll : ((List.range 133).map (digN FQ)).length = 133 := by simp
          have hi : (Tryd.prog.info? 69).map (·.size) = some (v64 ((List.range 133).map (digN FQ))).size := by rw [v64_size, hll]; kernel_rfl
          generalize (List.range 133).map (digN FQ) = A at *
          have hold : (v64 (zer 133)).size = (v64 A).size := by rw [v64_size, v64_size, hll, zer_len]
          go_wp2_with (first | (refine wpList_load_row (by rfl) 69 (.tmp 7) (by rfl) gA (by rfl) 69 (v64 A) (0, 0) _ z3' Tryd.underlying69 rfl hi ?_) | (refine store_row0 69 (.tmp 2) (.tmp 48) (by rfl) (by rfl) (by rfl) (w.heap.size + 1) (v64 A) (by rfl) (by rfl) 69 _ z1 hi hold (v64_one _) ?_))
          exact bodyPost_ret (results_cell_row Tryd.results38 _ _ (w.heap.size + 1) 69 (v64 A) (0, 0) _ rfl (z1.setRow _) Tryd.underlying69 rfl hi) rfl ⟨by rw [hdq], below_setRow zb (by omega) _⟩
end Go.Proofs.YtoebnkepeledmaaDoor
