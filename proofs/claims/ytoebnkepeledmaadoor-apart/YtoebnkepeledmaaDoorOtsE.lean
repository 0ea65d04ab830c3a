/- Of ots: the hash of all chains' ends. No old memory turns. -/
import Derived.Test.YtoebnkepeledmaaDoorOtsD
namespace Go.Proofs.YtoebnkepeledmaaDoor
open Go.RowKit

theorem zer_eq (n : Nat) : zer n = List.replicate n 0 := rfl
theorem zv4278 (wx : World) : (zeroValue 94).run Tryd.prog wx = .ok (.agg (v8 (zer 4278))) wx := by kernel_rfl
theorem zv32 (wx : World) : (zeroValue 24).run Tryd.prog wx = .ok (.agg (v8 (zer 32))) wx := by kernel_rfl
theorem info4278 {l : List Int} (h : l.length = 4278) : (Tryd.prog.info? 94).map (·.size) = some (v8 l).size := by rw [v8_size, h]; kernel_rfl
theorem links_info {l : List Int} (h : l.length = 4256) : (Tryd.prog.info? 58).map (·.size) = some (v8 l).size := by rw [v8_size, h]; kernel_rfl

set_option maxRecDepth 20000 in
set_option maxHeartbeats 300000 in
theorem public_any (S : List Int → List Int) (hS : Hash S) (H : List Int) (f : Nat → List Int) (w : World) (hL : Laid w) (hH : H.length = 20) (hf : ∀ i, (f i).length = 32) :
    Calls Tryd.prog 32 #[.agg (v8 H), .agg (v8 (catN f 133))] w fun e w' => e = .returned (.agg (v8 (topL S H f))) ∧ Below w.heap.size w w' := by
  have hHl : (H ++ n2 32896).length = 22 := by rw [List.length_append, hH, n2_len]
  have h95 : (Tryd.prog.info? 95).map (·.size) = some (v8 (H ++ n2 32896)).size := by rw [v8_size, hHl]; kernel_rfl
  have hT : topL S H f = S (H ++ n2 32896 ++ catN f 133) := rfl
  have hhead : ∀ wx, Calls Tryd.prog 58 #[.agg (v8 H), .int .u16 32896] wx fun e w' => e = .returned (.agg (v8 (H ++ n2 32896))) ∧ Below wx.heap.size wx w' := fun wx => head_any H 32896 wx hH
  generalize H ++ n2 32896 = X0 at *
  have hcl := catN_len hf
  have hidx : ∀ k : Nat, k < 133 → ∀ wx, (Instr.index 58 (.agg (v8 (catN f 133))) (.int .i64 (k : Int))).run Tryd.prog wx = .ok (.agg (v8 (f k))) wx := fun k hk wx =>
    run_index_sub 58 24 133 32 (catN f 133) (f k) .i64 k _ Tryd.underlying58 Tryd.underlying24 rfl (by kernel_rfl) hk (catN_cut hf 133 k hk).symm
  have hEl : (catN f 133).length = 4256 := hcl 133
  have hC0 : catN f 0 = [] := rfl
  have hCs' : Hid (∀ k, catN f (k + 1) = catN f k ++ f k) := fun _ => rfl
  have hcl' : Hid (∀ k, (catN f k).length = 32 * k) := hcl
  clear hcl
  generalize catN f = C at *
  obtain ⟨E, hE0⟩ : ∃ E, E = C 133 := ⟨_, rfl⟩
  rw [← hE0] at hEl hT ⊢
  rw [← hE0] at hidx
  have hE : Hid (E = C 133) := hE0
  clear hE0
  rw [hT]
  clear hT
  have hzv := zv4278
  go_enter Tryd.func32, Tryd.ntmps32
  go_upto_region 2 with fail
  have r0 : Row (World.alloc (World.alloc (World.alloc (World.alloc w (.cells (v8 H) 55)) (.cells (v8 E) 58)) (.cells (v8 (List.replicate 32 0)) 24)) (.cells (v8 (zer 4278)) 94)) w.heap.size 55 (v8 H) := (((Row.new _ _ _).alloc _).alloc _).alloc _
  have r1 : Row (World.alloc (World.alloc (World.alloc (World.alloc w (.cells (v8 H) 55)) (.cells (v8 E) 58)) (.cells (v8 (List.replicate 32 0)) 24)) (.cells (v8 (zer 4278)) 94)) (w.heap.size + 1) 58 (v8 E) := ((Row.newAt _ _ _ _ (by simp)).alloc _).alloc _
  have r2 : Row (World.alloc (World.alloc (World.alloc (World.alloc w (.cells (v8 H) 55)) (.cells (v8 E) 58)) (.cells (v8 (List.replicate 32 0)) 24)) (.cells (v8 (zer 4278)) 94)) (w.heap.size + 2) 24 (v8 (List.replicate 32 0)) := (Row.newAt _ _ _ _ (by simp)).alloc _
  have r3 : Row (World.alloc (World.alloc (World.alloc (World.alloc w (.cells (v8 H) 55)) (.cells (v8 E) 58)) (.cells (v8 (List.replicate 32 0)) 24)) (.cells (v8 (zer 4278)) 94)) (w.heap.size + 3) 94 (v8 (zer 4278)) := Row.newAt _ _ _ _ (by simp)
  have b1 : Below w.heap.size w (World.alloc (World.alloc (World.alloc (World.alloc w (.cells (v8 H) 55)) (.cells (v8 E) 58)) (.cells (v8 (List.replicate 32 0)) 24)) (.cells (v8 (zer 4278)) 94)) := ((((Below.refl _ _).alloc (Nat.le_refl _) _).alloc (by simp) _).alloc (by simp; omega) _).alloc (by simp; omega) _
  change Code.wp _ _ _ _ ((World.alloc (World.alloc (World.alloc (World.alloc w (.cells (v8 H) 55)) (.cells (v8 E) 58)) (.cells (v8 (List.replicate 32 0)) 24)) (.cells (v8 (zer 4278)) 94)))
  generalize (World.alloc (World.alloc (World.alloc (World.alloc w (.cells (v8 H) 55)) (.cells (v8 E) 58)) (.cells (v8 (List.replicate 32 0)) 24)) (.cells (v8 (zer 4278)) 94)) = w1 at r0 r1 r2 r3 b1 ⊢
  have hr3 := r3.lt
  clear hzv
  go_upto_region 3 with (first | (refine wpList_load_row (by rfl) 55 (.tmp 2) (by rfl) w.heap.size (by rfl) 55 (v8 H) (0, 0) _ r0 Tryd.underlying55 rfl (leaf_info hH) ?_) | (go_at_call 58; (with_reducible refine Calls.mono (hhead _) ?_); rintro e w3 ⟨rfl, hb3⟩) | (refine store_row0 95 (.tmp 6) (.tmp 10) (by rfl) (by rfl) (by rfl) w3.heap.size (v8 X0) (by rfl) (by rfl) 95 (v8 (List.replicate 22 0)) (Row.new w3 95 _) h95 (by rw [v8_size, v8_size, hHl]; simp) (v8_one _) ?_))
  have hs3 := hb3.size
  have p1 := ((r1.below hb3 (by omega)).alloc (.cells (v8 (List.replicate 22 0)) 95)).setRowOther (g := w3.heap.size) (by omega) (v8 X0)
  have p2 := ((r2.below hb3 (by omega)).alloc (.cells (v8 (List.replicate 22 0)) 95)).setRowOther (g := w3.heap.size) (by omega) (v8 X0)
  have p3 := ((r3.below hb3 (by omega)).alloc (.cells (v8 (List.replicate 22 0)) 95)).setRowOther (g := w3.heap.size) (by omega) (v8 X0)
  have p4 := (Row.new w3 95 (v8 (List.replicate 22 0))).setRow (v8 X0)
  have pb : Below w.heap.size w ((w3.alloc (.cells (v8 (List.replicate 22 0)) 95)).setRow w3.heap.size (v8 X0)) := below_setRow ((b1.trans (hb3.mono b1.size)).alloc (by omega) _) (by omega) _
  change Code.wp _ _ _ _ ((w3.alloc (.cells (v8 (List.replicate 22 0)) 95)).setRow w3.heap.size (v8 X0))
  have hg : w.heap.size + 3 < w3.heap.size := by omega
  generalize (w3.alloc (.cells (v8 (List.replicate 22 0)) 95)).setRow w3.heap.size (v8 X0) = w4 at p1 p2 p3 p4 pb ⊢
  refine wp_region_quiet_tail 2 (by kernel_rfl) (by kernel_rfl) ?_
  simp only [List.take_succ_cons, List.take_zero, List.drop_succ_cons, List.drop_zero]
  repeat (go_big_quiet_step (fail))
  refine wpQuiet_nil ?_
  rintro _ ⟨nq, rfl⟩
  refine copy8 (w := w4.drewN nq) (.tmp 11) (.tmp 12) 28 28 (by rfl) (by rfl) 5 Tryd.underlying28 (by kernel_rfl) (some ⟨w.heap.size + 3, 0, none⟩) (some ⟨w3.heap.size, 0, none⟩) 4278 4278 22 22 (by rfl) (by rfl) (w.heap.size + 3) (0) (zer 4278) 94 (p3.drewN nq) X0 (by rw [hHl]; rfl) (fun _ => rfl) ((p4.drewN nq).bytes) (by rw [hHl, zer_len]; omega) ?_
  simp only [Act.put, List.setIfInBounds_toArray, List.set_cons_succ, List.set_cons_zero]
  rw [hHl, show ((22 : Nat) : Int) = 22 from rfl, show spl (zer 4278) 0 X0 = X0 ++ List.replicate (4278 - 22) 0 by rw [zer_eq, spl_zero, hHl]]
  have q1 := (p1.drewN nq).setRowOther (g := w.heap.size + 3) (by omega) (v8 (X0 ++ List.replicate (4278 - 22) 0))
  have q2 := (p2.drewN nq).setRowOther (g := w.heap.size + 3) (by omega) (v8 (X0 ++ List.replicate (4278 - 22) 0))
  have q3 := (p3.drewN nq).setRow (v8 (X0 ++ List.replicate (4278 - 22) 0))
  have qb := below_setRow (g := w.heap.size + 3) (below_drewN pb nq) (by omega) (v8 (X0 ++ List.replicate (4278 - 22) 0))
  generalize (w4.drewN nq).setRow (w.heap.size + 3) (v8 (X0 ++ List.replicate (4278 - 22) 0)) = w5 at q1 q2 q3 qb ⊢
  clear r0 r1 r2 r3 b1 p1 p2 p3 p4 pb
  go_wp2_with (refine wpList_load_row (by rfl) 58 (.tmp 3) (by rfl) (w.heap.size + 1) (by rfl) 58 (v8 E) (0, 0) _ q1 Tryd.underlying58 rfl (links_info hEl) ?_)
  go_loopw [15] (fun v wr => ∃ k : Nat, k ≤ 133 ∧ v = .int .i64 (k : Int) ∧ Row wr (w.heap.size + 2) 24 (v8 (List.replicate 32 0)) ∧ Row wr (w.heap.size + 3) 94 (v8 (X0 ++ C k ++ List.replicate (4278 - (22 + 32 * k)) 0)) ∧ Below w.heap.size w wr) (fun v _ => 133 - (intOf v).toNat)
  case atStart => exact ⟨0, by omega, rfl, q2, by simpa [hC0] using q3, qb⟩
  case round =>
    clear q1 q2 q3 qb
    obtain ⟨k, hk, rfl, z2, z3, zb⟩ := hrel
    by_cases hlt : k < 133
    · have hix := hidx k hlt
      have hfk := hf k
      have hz32 := zv32
      have hz3 := z3.lt
      have hXl : (X0 ++ C k).length = 22 + 32 * k := by rw [List.length_append, hHl, hcl'.out k]
      have hnx : spl (X0 ++ C k ++ List.replicate (4278 - (22 + 32 * k)) 0) (22 + 32 * k) (f k) = X0 ++ C (k + 1) ++ List.replicate (4278 - (22 + 32 * (k + 1))) 0 := by
        have := spl_mid (X0 ++ C k) (f k) (4278 - (22 + 32 * k))
        rw [hXl, hfk] at this
        rw [this, hCs'.out k, ← List.append_assoc, show 4278 - (22 + 32 * k) - 32 = 4278 - (22 + 32 * (k + 1)) by omega]
      have hAl : (X0 ++ C k ++ List.replicate (4278 - (22 + 32 * k)) 0).length = 4278 := by rw [List.length_append, hXl]; simp; omega
      generalize X0 ++ C k ++ List.replicate (4278 - (22 + 32 * k)) 0 = A at *
      obtain ⟨B, hB⟩ : ∃ B, B = X0 ++ C (k + 1) ++ List.replicate (4278 - (22 + 32 * (k + 1))) 0 := ⟨_, rfl⟩
      rw [← hB] at hnx
      have hB' : Hid (B = X0 ++ C (k + 1) ++ List.replicate (4278 - (22 + 32 * (k + 1))) 0) := hB
      have hnx' : Hid (spl A (22 + 32 * k) (f k) = B) := hnx
      clear hB hnx hXl
      go_upto_region 7 with (refine store_row0 24 (.tmp 8) (.tmp 18) (by rfl) (by rfl) (by rfl) wr.heap.size (v8 (f k)) (by rfl) (by rfl) 24 (v8 (zer 32)) (Row.new wr 24 _) (id_info hfk) (by rw [v8_size, v8_size, hfk, zer_len]) (v8_one _) ?_)
      have y2 := (z2.alloc (.cells (v8 (zer 32)) 24)).setRowOther (g := wr.heap.size) (by omega) (v8 (f k))
      have y3 := (z3.alloc (.cells (v8 (zer 32)) 24)).setRowOther (g := wr.heap.size) (by omega) (v8 (f k))
      have y4 := (Row.new wr 24 (v8 (zer 32))).setRow (v8 (f k))
      have yb : Below w.heap.size w ((wr.alloc (.cells (v8 (zer 32)) 24)).setRow wr.heap.size (v8 (f k))) := below_setRow (zb.alloc (by omega) _) (by omega) _
      change Code.wp _ _ _ _ ((wr.alloc (.cells (v8 (zer 32)) 24)).setRow wr.heap.size (v8 (f k)))
      generalize (wr.alloc (.cells (v8 (zer 32)) 24)).setRow wr.heap.size (v8 (f k)) = w6 at y2 y3 y4 yb ⊢
      have k1 : (22 : Int) + (k : Int) * 32 ≤ 4278 := by omega
      have k2 : (0 : Int) ≤ 22 + (k : Int) * 32 := by omega
      have k3 : ¬ 4278 = 22 + k * 32 := by omega
      refine wp_region_quiet_tail 5 (by kernel_rfl) (by kernel_rfl) ?_
      simp only [List.take_succ_cons, List.take_zero, List.drop_succ_cons, List.drop_zero]
      repeat (go_big_quiet_step (fail))
      refine wpQuiet_nil ?_
      rintro _ ⟨nq, rfl⟩
      refine copy8 (w := w6.drewN nq) (.tmp 22) (.tmp 23) 28 28 (by rfl) (by rfl) 5 Tryd.underlying28 (by kernel_rfl) (some ⟨w.heap.size + 3, 22 + k * 32, none⟩) (some ⟨wr.heap.size, 0, none⟩) (4278 - (22 + k * 32)) (4278 - (22 + k * 32)) 32 32 (by rfl) (by rfl) (w.heap.size + 3) (22 + k * 32) A 94 (y3.drewN nq) (f k) (by rw [hfk]; omega) (fun _ => rfl) ((y4.drewN nq).bytes) (by rw [hfk, hAl]; omega) ?_
      simp only [Act.put, List.setIfInBounds_toArray, List.set_cons_succ, List.set_cons_zero]
      rw [show 22 + k * 32 = 22 + 32 * k by omega, hnx'.out]
      have u2 := (y2.drewN nq).setRowOther (g := w.heap.size + 3) (by omega) (v8 B)
      have u3 := (y3.drewN nq).setRow (v8 B)
      have ub := below_setRow (g := w.heap.size + 3) (below_drewN yb nq) (by omega) (v8 B)
      generalize (w6.drewN nq).setRow (w.heap.size + 3) (v8 B) = w7 at u2 u3 ub ⊢
      rw [hfk]
      go_wp2
      go_roundw
      case rel => exact ⟨k + 1, by omega, by go_num, u2, by rw [← hB'.out]; exact u3, ub⟩
      case measure => simp [intOf]; omega
    · obtain rfl : k = 133 := by omega
      have z3' : Row wr (w.heap.size + 3) 94 (v8 (X0 ++ E)) := by rw [hE.out]; simpa using z3
      clear z3
      have hXl : (X0 ++ E).length = 4278 := by rw [List.length_append, hHl, hEl]
      generalize hX : X0 ++ E = X at *
      have hsum := hS.sum X (some ⟨w.heap.size + 3, 0, none⟩) 4278 4278 wr hXl (by omega) (by omega) (hL.below zb) z3'.bytes
      have hu3 := z3'.lt
      have hsl := hS.len X
      go_wp2_with (first | (go_at_call 59; (with_reducible refine Calls.mono hsum ?_); rintro e w8 ⟨rfl, hb8⟩) | (refine store_row0 24 (.tmp 4) (.tmp 27) (by rfl) (by rfl) (by rfl) (w.heap.size + 2) (v8 (S X)) (by rfl) (by rfl) 24 _ (z2.below hb8 (by omega)) (id_info hsl) (by rw [v8_size, v8_size, hsl]; simp) (v8_one _) ?_))
      exact bodyPost_ret (results_cell_row Tryd.results32 _ _ (w.heap.size + 2) 24 (v8 (S X)) (0, 0) _ rfl ((z2.below hb8 (by omega)).setRow _) Tryd.underlying24 rfl (id_info hsl)) rfl ⟨by rw [hX], below_setRow (zb.trans (hb8.mono zb.size)) (by omega) _⟩
end Go.Proofs.YtoebnkepeledmaaDoor
