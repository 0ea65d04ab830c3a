/- ots.Public: the key of a leaf. No old memory turns. -/
import Derived.Test.YtoebnkepeledmaaDoorOtsE
namespace Go.Proofs.YtoebnkepeledmaaDoor
open Go.RowKit

theorem zv4256 (wx : World) : (zeroValue 58).run Tryd.prog wx = .ok (.agg (v8 (zer 4256))) wx := by kernel_rfl
theorem zv20 (wx : World) : (zeroValue 55).run Tryd.prog wx = .ok (.agg (v8 (zer 20))) wx := by kernel_rfl
theorem name_info {l : List Int} (h : l.length = 16) : (Tryd.prog.info? 22).map (·.size) = some (v8 l).size := by rw [v8_size, h]; kernel_rfl

set_option maxRecDepth 20000 in
set_option maxHeartbeats 300000 in
theorem Public_any (S : List Int → List Int) (hS : Hash S) (nm seed : List Int) (q : Int) (w : World) (hL : Laid w) (hn : nm.length = 16) (hs : seed.length = 32) :
    Calls Tryd.prog 15 #[.agg (v8 nm), .int .i64 q, .agg (v8 seed)] w fun e w' => e = .returned (.agg (v8 (pubL S (nm ++ n4 q) seed))) ∧ Below w.heap.size w w' := by
  have hlo := fun wx => leafOf_any nm q wx hn
  have hH : (nm ++ n4 q).length = 20 := by rw [List.length_append, hn, n4_len]
  generalize nm ++ n4 q = H at *
  have hx : ∀ (k : Nat) wx, Laid wx → k < 133 → Calls Tryd.prog 31 #[.agg (v8 H), .int .i64 (k : Int), .agg (v8 seed)] wx fun e w' => e = .returned (.agg (v8 (xL S H seed k))) ∧ Below wx.heap.size wx w' := fun k wx hl hk =>
    start_any S hS H seed k wx hl hH hs (by omega) (by omega)
  have hy : ∀ (k : Nat) wx, Laid wx → k < 133 → Calls Tryd.prog 30 #[.agg (v8 H), .int .i64 (k : Int), .int .i64 0, .int .i64 3, .agg (v8 (xL S H seed k))] wx fun e w' => e = .returned (.agg (v8 (yL S H seed k))) ∧ Below wx.heap.size wx w' := fun k wx hl hk =>
    walk_any S hS H (xL S H seed k) k 0 3 wx hl hH (hS.len _) (by omega) (by omega) (by omega)
  have hyl : ∀ i, (yL S H seed i).length = 32 := yL_len (fun l => hS.len l) H seed
  have hpub : ∀ wx, Laid wx → Calls Tryd.prog 32 #[.agg (v8 H), .agg (v8 (catN (yL S H seed) 133))] wx fun e w' => e = .returned (.agg (v8 (pubL S H seed))) ∧ Below wx.heap.size wx w' := fun wx hl => public_any S hS H (yL S H seed) wx hl hH hyl
  have hPl : (pubL S H seed).length = 32 := hS.len _
  have hcl' : Hid (∀ k, (catN (yL S H seed) k).length = 32 * k) := catN_len hyl
  have hC0 : catN (yL S H seed) 0 = [] := rfl
  have hCs' : Hid (∀ k, catN (yL S H seed) (k + 1) = catN (yL S H seed) k ++ yL S H seed k) := fun _ => rfl
  generalize catN (yL S H seed) = C at *
  generalize pubL S H seed = PK at *
  generalize yL S H seed = Y at *
  have hxl : ∀ k : Int, (xL S H seed k).length = 32 := fun k => hS.len _
  generalize xL S H seed = X at *
  have z20 := zv20
  have z32 := zv32
  have z4256 := zv4256
  go_enter Tryd.func15, Tryd.ntmps15
  go_upto_region 1 with fail
  have r0 : Row (World.alloc (World.alloc (World.alloc w (.cells (v8 nm) 22)) (.cells (v8 seed) 24)) (.cells (v8 (zer 32)) 24)) w.heap.size 22 (v8 nm) := ((Row.new _ _ _).alloc _).alloc _
  have r1 : Row (World.alloc (World.alloc (World.alloc w (.cells (v8 nm) 22)) (.cells (v8 seed) 24)) (.cells (v8 (zer 32)) 24)) (w.heap.size + 1) 24 (v8 seed) := (Row.newAt _ _ _ _ (by simp)).alloc _
  have r2 : Row (World.alloc (World.alloc (World.alloc w (.cells (v8 nm) 22)) (.cells (v8 seed) 24)) (.cells (v8 (zer 32)) 24)) (w.heap.size + 2) 24 (v8 (zer 32)) := Row.newAt _ _ _ _ (by simp)
  have b1 : Below w.heap.size w (World.alloc (World.alloc (World.alloc w (.cells (v8 nm) 22)) (.cells (v8 seed) 24)) (.cells (v8 (zer 32)) 24)) := (((Below.refl _ _).alloc (Nat.le_refl _) _).alloc (by simp) _).alloc (by simp; omega) _
  change Code.wp _ _ _ _ ((World.alloc (World.alloc (World.alloc w (.cells (v8 nm) 22)) (.cells (v8 seed) 24)) (.cells (v8 (zer 32)) 24)))
  generalize (World.alloc (World.alloc (World.alloc w (.cells (v8 nm) 22)) (.cells (v8 seed) 24)) (.cells (v8 (zer 32)) 24)) = w1 at r0 r1 r2 b1 ⊢
  have hr2 := r2.lt
  go_wp2_with (first | (refine wpList_load_row (by rfl) 22 (.tmp 3) (by rfl) w.heap.size (by rfl) 22 (v8 nm) (0, 0) _ r0 Tryd.underlying22 rfl (name_info hn) ?_) | (go_at_call 29; (with_reducible refine Calls.mono (hlo _) ?_); rintro e w3 ⟨rfl, hb3⟩) | (refine store_row0 55 (.tmp 7) (.tmp 12) (by rfl) (by rfl) (by rfl) w3.heap.size (v8 H) (by rfl) (by rfl) 55 (v8 (zer 20)) (Row.new w3 55 _) (leaf_info hH) (by rw [v8_size, v8_size, hH, zer_len]) (v8_one _) ?_))
  have hs3 := hb3.size
  have p1 := (((r1.below hb3 (by omega)).alloc (.cells (v8 (zer 20)) 55)).setRowOther (g := w3.heap.size) (by omega) (v8 H)).alloc (.cells (v8 (zer 4256)) 58)
  have p2 := (((r2.below hb3 (by omega)).alloc (.cells (v8 (zer 20)) 55)).setRowOther (g := w3.heap.size) (by omega) (v8 H)).alloc (.cells (v8 (zer 4256)) 58)
  have p3 := ((Row.new w3 55 (v8 (zer 20))).setRow (v8 H)).alloc (.cells (v8 (zer 4256)) 58)
  have p4 : Row (((w3.alloc (.cells (v8 (zer 20)) 55)).setRow w3.heap.size (v8 H)).alloc (.cells (v8 (zer 4256)) 58)) (w3.heap.size + 1) 58 (v8 (zer 4256)) := Row.newAt _ _ _ _ (by simp)
  have pb : Below w.heap.size w (((w3.alloc (.cells (v8 (zer 20)) 55)).setRow w3.heap.size (v8 H)).alloc (.cells (v8 (zer 4256)) 58)) := (below_setRow ((b1.trans (hb3.mono b1.size)).alloc (by omega) _) (by omega) _).alloc (by simp; omega) _
  obtain ⟨gl, hgl⟩ : ∃ gl, gl = w3.heap.size := ⟨_, rfl⟩
  have hg : w.heap.size + 2 < gl := by omega
  change Code.wp _ _ _ _ (((w3.alloc (.cells (v8 (zer 20)) 55)).setRow w3.heap.size (v8 H)).alloc (.cells (v8 (zer 4256)) 58))
  rw [← hgl] at p1 p2 p3 p4 pb ⊢
  generalize ((w3.alloc (.cells (v8 (zer 20)) 55)).setRow gl (v8 H)).alloc (.cells (v8 (zer 4256)) 58) = w4 at p1 p2 p3 p4 pb ⊢
  clear hgl r0 r1 r2 b1 hb3 hs3 z20 z4256
  go_loopw [13] (fun v wr => ∃ k : Nat, k ≤ 133 ∧ v = .int .i64 (k : Int) ∧ Row wr (w.heap.size + 1) 24 (v8 seed) ∧ Row wr (w.heap.size + 2) 24 (v8 (zer 32)) ∧ Row wr gl 55 (v8 H) ∧ Row wr (gl + 1) 58 (v8 (C k ++ List.replicate (4256 - 32 * k) 0)) ∧ Below w.heap.size w wr) (fun v _ => 133 - (intOf v).toNat)
  case atStart => exact ⟨0, by omega, rfl, p1, p2, p3, by simpa [hC0, zer] using p4, pb⟩
  case round =>
    clear p1 p2 p3 p4 pb
    obtain ⟨k, hk, rfl, z1, z2, z3, z4, zb⟩ := hrel
    by_cases hlt : k < 133
    · have hCl := hcl'.out k
      have hYk := hyl k
      have hXk := hxl k
      have hnx : Hid (spl (C k ++ List.replicate (4256 - 32 * k) 0) (32 * k) (Y k) = C (k + 1) ++ List.replicate (4256 - 32 * (k + 1)) 0) := by
        have := spl_mid (C k) (Y k) (4256 - 32 * k)
        rw [hCl, hYk] at this
        show _ = _
        rw [this, hCs'.out k, show 4256 - 32 * k - 32 = 4256 - 32 * (k + 1) by omega]
      have hAl : (C k ++ List.replicate (4256 - 32 * k) 0).length = 4256 := by rw [List.length_append, hCl]; simp; omega
      generalize C k ++ List.replicate (4256 - 32 * k) 0 = A at *
      obtain ⟨B, hB⟩ : ∃ B, B = C (k + 1) ++ List.replicate (4256 - 32 * (k + 1)) 0 := ⟨_, rfl⟩
      rw [← hB] at hnx
      have hB' : Hid (B = C (k + 1) ++ List.replicate (4256 - 32 * (k + 1)) 0) := hB
      clear hB
      go_upto_region 6 with fail
      refine region_tail 9 (by kernel_rfl) (by kernel_rfl) (by kernel_rfl) ?_
      apply Exists.intro
      refine ⟨fun ι _ W hb hc => ?_, fun w6 hb6 => ?_⟩
      · have t1 : ∀ i, Row (W i) (w.heap.size + 1) 24 (v8 seed) := fun i => z1.below (hb i) z1.lt
        have t3 : ∀ i, Row (W i) gl 55 (v8 H) := fun i => z3.below (hb i) z3.lt
        have tL : ∀ i, Laid (W i) := fun i => hL.below (zb.trans ((hb i).mono zb.size))
        simp only [List.take_succ_cons, List.take_zero]
        go_big_quiet_step (fail)
        refine q_load_row 55 (.tmp 7) (by rfl) (by rfl) (gl) (by rfl) 55 _ _ t3 Tryd.underlying55 rfl (leaf_info hH) ?_
        simp only [Act.put, List.setIfInBounds_toArray, List.set_cons_succ, List.set_cons_zero]
        go_big_quiet_step (fail)
        refine q_load_row 55 (.tmp 7) (by rfl) (by rfl) (gl) (by rfl) 55 _ _ t3 Tryd.underlying55 rfl (leaf_info hH) ?_
        simp only [Act.put, List.setIfInBounds_toArray, List.set_cons_succ, List.set_cons_zero]
        go_big_quiet_step (fail)
        refine q_load_row 24 (.tmp 5) (by rfl) (by rfl) (w.heap.size + 1) (by rfl) 24 _ _ t1 Tryd.underlying24 rfl (id_info hs) ?_
        simp only [Act.put, List.setIfInBounds_toArray, List.set_cons_succ, List.set_cons_zero]
        go_big_quiet_step ((go_at_call 31; exact (hx k _ (tL _) hlt).mono (fun e w' ⟨he, hw⟩ => ⟨he, hc _ _ hw⟩)))
        go_big_quiet_step ((go_at_call 30; exact (hy k _ (tL _) hlt).mono (fun e w' ⟨he, hw⟩ => ⟨he, hc _ _ hw⟩)))
        go_big_quiet_step (fail)
        exact wpQuiet_nil rfl
      · simp only [List.drop_succ_cons, List.drop_zero]
        have v1 := z1.below hb6 z1.lt
        have v2 := z2.below hb6 z2.lt
        have v3 := z3.below hb6 z3.lt
        have v4 := z4.below hb6 z4.lt
        have vb := zb.trans (hb6.mono zb.size)
        refine store_mid8 24 (.tmp 24) (.tmp 23) (by rfl) (by rfl) (by rfl) (gl + 1) (k * 32) (Y k) (by rfl) (by rfl) 58 A v4 (id_info hYk) (by rw [hYk, hAl]; omega) ?_
        rw [show spl A (k * 32) (Y k) = B by rw [show k * 32 = 32 * k by omega]; exact hnx.out]
        have u1 := v1.setRowOther (g := gl + 1) (by omega) (v8 B)
        have u2 := v2.setRowOther (g := gl + 1) (by omega) (v8 B)
        have u3 := v3.setRowOther (g := gl + 1) (by omega) (v8 B)
        have u4 := v4.setRow (v8 B)
        have ub := below_setRow (g := gl + 1) vb (by omega) (v8 B)
        generalize w6.setRow (gl + 1) (v8 B) = w7 at u1 u2 u3 u4 ub ⊢
        clear v1 v2 v3 v4 vb z1 z2 z3 z4 zb hb6
        go_wp2
        go_roundw
        case rel => exact ⟨k + 1, by omega, by go_num, u1, u2, u3, by rw [← hB'.out]; exact u4, ub⟩
        case measure => simp [intOf]; omega
    · obtain rfl : k = 133 := by omega
      have z4' : Row wr (gl + 1) 58 (v8 (C 133)) := by simpa using z4
      clear z4
      have hEl : (C 133).length = 4256 := hcl'.out 133
      have hp := hpub wr (hL.below zb)
      generalize C 133 = E at *
      have hz4 := z4'.lt
      go_wp2_with (first | (refine wpList_load_row (by rfl) 55 (.tmp 7) (by rfl) gl (by rfl) 55 (v8 H) (0, 0) _ z3 Tryd.underlying55 rfl (leaf_info hH) ?_) | (refine wpList_load_row (by rfl) 58 (.tmp 8) (by rfl) (gl + 1) (by rfl) 58 (v8 E) (0, 0) _ z4' Tryd.underlying58 rfl (links_info hEl) ?_) | (go_at_call 32; (with_reducible refine Calls.mono hp ?_); rintro e w8 ⟨rfl, hb8⟩) | (refine store_row0 24 (.tmp 6) (.tmp 28) (by rfl) (by rfl) (by rfl) (w.heap.size + 2) (v8 PK) (by rfl) (by rfl) 24 _ (z2.below hb8 (by omega)) (id_info hPl) (by rw [v8_size, v8_size, hPl, zer_len]) (v8_one _) ?_))
      exact bodyPost_ret (results_cell_row Tryd.results15 _ _ (w.heap.size + 2) 24 (v8 PK) (0, 0) _ rfl ((z2.below hb8 (by omega)).setRow _) Tryd.underlying24 rfl (id_info hPl)) rfl ⟨rfl, below_setRow (zb.trans (hb8.mono zb.size)) (by omega) _⟩
end Go.Proofs.YtoebnkepeledmaaDoor
