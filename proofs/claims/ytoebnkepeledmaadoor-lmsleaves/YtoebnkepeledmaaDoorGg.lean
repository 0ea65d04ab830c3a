/- The tree of lms; regions by an invariant; plain lists of the reference. -/
import Derived.Test.YtoebnkepeledmaaDoorGe
import Derived.Test.YtoebnkepeledmaaDoorGf
import Derived.Test.YtoebnkepeledmaaDoorGc
import Derived.Test.YtoebnkepeledmaaDoorGd
import Derived.Test.YtoebnkepeledmaaDoorGb
namespace Go.Proofs.YtoebnkepeledmaaDoor

section
open Go.RowKit

set_option maxRecDepth 20000 in
set_option maxHeartbeats 1000000 in
theorem lleaf_any (S : List Int → List Int) (hS : Hash S) (nm k : List Int) (r : Int) (w : World) (hL : Laid w) (hn : nm.length = 16) (hk : k.length = 32) :
    Calls Tryd.prog 65 #[.agg (v8 nm), .int .i64 r, .agg (v8 k)] w fun e w' => e = .returned (.agg (v8 (S (nm ++ n4 r ++ [130, 130] ++ k)))) ∧ Below w.heap.size w w' := by
  have hHl : (nm ++ n4 r ++ [130, 130]).length = 22 := by rw [List.length_append, List.length_append, hn, n4_len]; rfl
  have h95 : (Tryd.prog.info? 95).map (·.size) = some (v8 (nm ++ n4 r ++ [130, 130])).size := by rw [v8_size, hHl]; kernel_rfl
  have hid : ∀ l, (Tryd.prog.info? 24).map (·.size) = some (v8 (S l)).size := fun l => by rw [v8_size, hS.len]; kernel_rfl
  have hhead : ∀ wx, Calls Tryd.prog 72 #[.agg (v8 nm), .int .i64 r, .int .u8 130] wx fun e w' => e = .returned (.agg (v8 (nm ++ n4 r ++ [130, 130]))) ∧ Below wx.heap.size wx w' := fun wx => headOf_any nm r 130 wx hn
  generalize nm ++ n4 r ++ [130, 130] = H at *
  go_enter Tryd.func65, Tryd.ntmps65
  go_upto_region 2 with fail
  have r0 : Row (World.alloc (World.alloc (World.alloc (World.alloc w (.cells (v8 nm) 22)) (.cells (v8 k) 24)) (.cells (v8 (List.replicate 32 0)) 24)) (.cells (v8 (List.replicate 54 0)) 105)) w.heap.size 22 (v8 nm) := ((((Row.new _ _ _).alloc _).alloc _).alloc _)
  have r1 : Row (World.alloc (World.alloc (World.alloc (World.alloc w (.cells (v8 nm) 22)) (.cells (v8 k) 24)) (.cells (v8 (List.replicate 32 0)) 24)) (.cells (v8 (List.replicate 54 0)) 105)) (w.heap.size + 1) 24 (v8 k) := (((Row.newAt _ _ _ _ (by simp)).alloc _).alloc _)
  have r2 : Row (World.alloc (World.alloc (World.alloc (World.alloc w (.cells (v8 nm) 22)) (.cells (v8 k) 24)) (.cells (v8 (List.replicate 32 0)) 24)) (.cells (v8 (List.replicate 54 0)) 105)) (w.heap.size + 2) 24 (v8 (List.replicate 32 0)) := ((Row.newAt _ _ _ _ (by simp)).alloc _)
  have r3 : Row (World.alloc (World.alloc (World.alloc (World.alloc w (.cells (v8 nm) 22)) (.cells (v8 k) 24)) (.cells (v8 (List.replicate 32 0)) 24)) (.cells (v8 (List.replicate 54 0)) 105)) (w.heap.size + 3) 105 (v8 (List.replicate 54 0)) := (Row.newAt _ _ _ _ (by simp))
  have b1 : Below w.heap.size w (World.alloc (World.alloc (World.alloc (World.alloc w (.cells (v8 nm) 22)) (.cells (v8 k) 24)) (.cells (v8 (List.replicate 32 0)) 24)) (.cells (v8 (List.replicate 54 0)) 105)) := (((((Below.refl _ _).alloc (Nat.le_refl _) _).alloc (by simp; try omega) _).alloc (by simp; try omega) _).alloc (by simp; try omega) _)
  change Code.wp _ _ _ _ ((World.alloc (World.alloc (World.alloc (World.alloc w (.cells (v8 nm) 22)) (.cells (v8 k) 24)) (.cells (v8 (List.replicate 32 0)) 24)) (.cells (v8 (List.replicate 54 0)) 105)))
  generalize (World.alloc (World.alloc (World.alloc (World.alloc w (.cells (v8 nm) 22)) (.cells (v8 k) 24)) (.cells (v8 (List.replicate 32 0)) 24)) (.cells (v8 (List.replicate 54 0)) 105)) = w1 at r0 r1 r2 r3 b1 ⊢
  have hr3 := r3.lt
  go_upto_region 3 with (first | (refine wpList_load_row (by rfl) 22 (.tmp 3) (by rfl) w.heap.size (by rfl) 22 (v8 nm) (0, 0) _ r0 Tryd.underlying22 rfl (name_info hn) ?_) | (go_at_call 72; (with_reducible refine Calls.mono (hhead _) ?_); rintro e w3 ⟨rfl, hb3⟩) | (refine store_row0 95 (.tmp 8) (.tmp 11) (by rfl) (by rfl) (by rfl) w3.heap.size (v8 H) (by rfl) (by rfl) 95 (v8 (List.replicate 22 0)) (Row.new w3 95 _) h95 (by rw [v8_size, v8_size, hHl]; simp) (v8_one _) ?_))
  have hs3 := hb3.size
  have p1 := ((r1.below hb3 (by omega)).alloc (.cells (v8 (List.replicate 22 0)) 95)).setRowOther (g := w3.heap.size) (by omega) (v8 H)
  have p2 := ((r2.below hb3 (by omega)).alloc (.cells (v8 (List.replicate 22 0)) 95)).setRowOther (g := w3.heap.size) (by omega) (v8 H)
  have p3 := ((r3.below hb3 (by omega)).alloc (.cells (v8 (List.replicate 22 0)) 95)).setRowOther (g := w3.heap.size) (by omega) (v8 H)
  have p9 := (Row.new w3 95 (v8 (List.replicate 22 0))).setRow (v8 H)
  have pb : Below w.heap.size w ((w3.alloc (.cells (v8 (List.replicate 22 0)) 95)).setRow w3.heap.size (v8 H)) := below_setRow ((b1.trans (hb3.mono b1.size)).alloc (by omega) _) (by omega) _
  obtain ⟨gh, hgh⟩ : ∃ gh, gh = w3.heap.size := ⟨_, rfl⟩
  have hg : w.heap.size + 3 < gh := by omega
  change Code.wp _ _ _ _ ((w3.alloc (.cells (v8 (List.replicate 22 0)) 95)).setRow w3.heap.size (v8 H))
  rw [← hgh] at p1 p2 p3 p9 pb ⊢
  generalize (w3.alloc (.cells (v8 (List.replicate 22 0)) 95)).setRow gh (v8 H) = w4 at p1 p2 p3 p9 pb ⊢
  clear r0 r1 r2 r3 b1 hb3 hgh hs3 hr3
  refine wp_region_quiet_tail 2 (by kernel_rfl) (by kernel_rfl) ?_
  simp only [List.take_succ_cons, List.take_zero, List.drop_succ_cons, List.drop_zero]
  repeat (go_big_quiet_step (fail))
  refine wpQuiet_nil ?_
  rintro _ ⟨nq, rfl⟩
  refine copy8 (w := w4.drewN nq) (.tmp 12) (.tmp 13) 28 28 (by rfl) (by rfl) 5 Tryd.underlying28 (by kernel_rfl) (some ⟨w.heap.size + 3, 0, none⟩) (some ⟨gh, 0, none⟩) 54 54 22 22 (by rfl) (by rfl) (w.heap.size + 3) (0) (List.replicate 54 0) 105 (p3.drewN nq) H (by rw [hHl]; rfl) (fun _ => rfl) ((p9.drewN nq).bytes) (by simp only [List.length_replicate, hHl]; omega) ?_
  simp only [Act.put, List.setIfInBounds_toArray, List.set_cons_succ, List.set_cons_zero]
  have hsp0 : spl (List.replicate 54 0) 0 H = (H ++ List.replicate 32 0) := by
    rw [spl_zero, hHl]
  rw [hsp0]
  have q1 := (p1.drewN nq).setRowOther (g := w.heap.size + 3) (by omega) (v8 (H ++ List.replicate 32 0))
  have q2 := (p2.drewN nq).setRowOther (g := w.heap.size + 3) (by omega) (v8 (H ++ List.replicate 32 0))
  have q3 := (p3.drewN nq).setRow (v8 (H ++ List.replicate 32 0))
  have qb := below_setRow (g := w.heap.size + 3) (below_drewN pb nq) (by omega) (v8 (H ++ List.replicate 32 0))
  generalize (w4.drewN nq).setRow (w.heap.size + 3) (v8 (H ++ List.replicate 32 0)) = w5 at q1 q2 q3 qb ⊢
  clear p1 p2 p3 pb hsp0 p9
  go_upto_region 4 with fail
  refine wp_region_quiet_tail 2 (by kernel_rfl) (by kernel_rfl) ?_
  simp only [List.take_succ_cons, List.take_zero, List.drop_succ_cons, List.drop_zero]
  repeat (go_big_quiet_step (fail))
  refine wpQuiet_nil ?_
  rintro _ ⟨nq, rfl⟩
  refine copy8 (w := w5.drewN nq) (.tmp 15) (.tmp 16) 28 28 (by rfl) (by rfl) 5 Tryd.underlying28 (by kernel_rfl) (some ⟨w.heap.size + 3, 22, none⟩) (some ⟨w.heap.size + 1, 0, none⟩) 32 32 32 32 (by rfl) (by rfl) (w.heap.size + 3) (22) (H ++ List.replicate 32 0) 105 (q3.drewN nq) k (by rw [hk]; rfl) (fun _ => rfl) ((q1.drewN nq).bytes) (by simp only [List.length_append, List.length_replicate, hHl, hk]; omega) ?_
  simp only [Act.put, List.setIfInBounds_toArray, List.set_cons_succ, List.set_cons_zero]
  have hsp1 : spl (H ++ List.replicate 32 0) 22 k = (H ++ k) := by
    have hl : (H).length = 22 := hHl
    rw [← hl]; exact spl_end _ _ _ hk.symm
  rw [hsp1]
  have r1 := (q1.drewN nq).setRowOther (g := w.heap.size + 3) (by omega) (v8 (H ++ k))
  have r2 := (q2.drewN nq).setRowOther (g := w.heap.size + 3) (by omega) (v8 (H ++ k))
  have r3 := (q3.drewN nq).setRow (v8 (H ++ k))
  have rb := below_setRow (g := w.heap.size + 3) (below_drewN qb nq) (by omega) (v8 (H ++ k))
  generalize (w5.drewN nq).setRow (w.heap.size + 3) (v8 (H ++ k)) = w6 at r1 r2 r3 rb ⊢
  clear q1 q2 q3 qb hsp1
  have hlX : (H ++ k).length = 54 := by simp only [List.length_append, hHl, hk]
  obtain ⟨X, hX⟩ : ∃ X, (H ++ k) = X := ⟨_, rfl⟩
  rw [hX] at r3 hlX
  have hsum := hS.sum X (some ⟨w.heap.size + 3, 0, none⟩) 54 54 w6 hlX (by omega) (by omega) (hL.below rb) r3.bytes
  have hu := r3.lt
  go_wp2_with (first | (go_at_call 59; (with_reducible refine Calls.mono hsum ?_); rintro e w9 ⟨rfl, hb9⟩) | (refine store_row0 24 (.tmp 6) (.tmp 19) (by rfl) (by rfl) (by rfl) (w.heap.size + 2) (v8 (S X)) (by rfl) (by rfl) 24 _ (r2.below hb9 (by omega)) (hid X) (by rw [v8_size, v8_size, hS.len]; simp) (v8_one _) ?_))
  exact bodyPost_ret (results_cell_row Tryd.results65 _ _ (w.heap.size + 2) 24 (v8 (S X)) (0, 0) _ rfl ((r2.below hb9 (by omega)).setRow _) Tryd.underlying24 rfl (hid X)) rfl ⟨by rw [hX], below_setRow (rb.trans (hb9.mono rb.size)) (by omega) _⟩
set_option maxRecDepth 20000 in
set_option maxHeartbeats 1000000 in
theorem above_any (S : List Int → List Int) (hS : Hash S) (nm a b : List Int) (r : Int) (w : World) (hL : Laid w) (hn : nm.length = 16) (ha : a.length = 32) (hb : b.length = 32) :
    Calls Tryd.prog 66 #[.agg (v8 nm), .int .i64 r, .agg (v8 a), .agg (v8 b)] w fun e w' => e = .returned (.agg (v8 (S (nm ++ n4 r ++ [131, 131] ++ a ++ b)))) ∧ Below w.heap.size w w' := by
  have hHl : (nm ++ n4 r ++ [131, 131]).length = 22 := by rw [List.length_append, List.length_append, hn, n4_len]; rfl
  have h95 : (Tryd.prog.info? 95).map (·.size) = some (v8 (nm ++ n4 r ++ [131, 131])).size := by rw [v8_size, hHl]; kernel_rfl
  have hid : ∀ l, (Tryd.prog.info? 24).map (·.size) = some (v8 (S l)).size := fun l => by rw [v8_size, hS.len]; kernel_rfl
  have hhead : ∀ wx, Calls Tryd.prog 72 #[.agg (v8 nm), .int .i64 r, .int .u8 131] wx fun e w' => e = .returned (.agg (v8 (nm ++ n4 r ++ [131, 131]))) ∧ Below wx.heap.size wx w' := fun wx => headOf_any nm r 131 wx hn
  generalize nm ++ n4 r ++ [131, 131] = H at *
  go_enter Tryd.func66, Tryd.ntmps66
  go_upto_region 2 with fail
  have r0 : Row (World.alloc (World.alloc (World.alloc (World.alloc (World.alloc w (.cells (v8 nm) 22)) (.cells (v8 a) 24)) (.cells (v8 b) 24)) (.cells (v8 (List.replicate 32 0)) 24)) (.cells (v8 (List.replicate 86 0)) 118)) w.heap.size 22 (v8 nm) := (((((Row.new _ _ _).alloc _).alloc _).alloc _).alloc _)
  have r1 : Row (World.alloc (World.alloc (World.alloc (World.alloc (World.alloc w (.cells (v8 nm) 22)) (.cells (v8 a) 24)) (.cells (v8 b) 24)) (.cells (v8 (List.replicate 32 0)) 24)) (.cells (v8 (List.replicate 86 0)) 118)) (w.heap.size + 1) 24 (v8 a) := ((((Row.newAt _ _ _ _ (by simp)).alloc _).alloc _).alloc _)
  have r2 : Row (World.alloc (World.alloc (World.alloc (World.alloc (World.alloc w (.cells (v8 nm) 22)) (.cells (v8 a) 24)) (.cells (v8 b) 24)) (.cells (v8 (List.replicate 32 0)) 24)) (.cells (v8 (List.replicate 86 0)) 118)) (w.heap.size + 2) 24 (v8 b) := (((Row.newAt _ _ _ _ (by simp)).alloc _).alloc _)
  have r3 : Row (World.alloc (World.alloc (World.alloc (World.alloc (World.alloc w (.cells (v8 nm) 22)) (.cells (v8 a) 24)) (.cells (v8 b) 24)) (.cells (v8 (List.replicate 32 0)) 24)) (.cells (v8 (List.replicate 86 0)) 118)) (w.heap.size + 3) 24 (v8 (List.replicate 32 0)) := ((Row.newAt _ _ _ _ (by simp)).alloc _)
  have r4 : Row (World.alloc (World.alloc (World.alloc (World.alloc (World.alloc w (.cells (v8 nm) 22)) (.cells (v8 a) 24)) (.cells (v8 b) 24)) (.cells (v8 (List.replicate 32 0)) 24)) (.cells (v8 (List.replicate 86 0)) 118)) (w.heap.size + 4) 118 (v8 (List.replicate 86 0)) := (Row.newAt _ _ _ _ (by simp))
  have b1 : Below w.heap.size w (World.alloc (World.alloc (World.alloc (World.alloc (World.alloc w (.cells (v8 nm) 22)) (.cells (v8 a) 24)) (.cells (v8 b) 24)) (.cells (v8 (List.replicate 32 0)) 24)) (.cells (v8 (List.replicate 86 0)) 118)) := ((((((Below.refl _ _).alloc (Nat.le_refl _) _).alloc (by simp; try omega) _).alloc (by simp; try omega) _).alloc (by simp; try omega) _).alloc (by simp; try omega) _)
  change Code.wp _ _ _ _ ((World.alloc (World.alloc (World.alloc (World.alloc (World.alloc w (.cells (v8 nm) 22)) (.cells (v8 a) 24)) (.cells (v8 b) 24)) (.cells (v8 (List.replicate 32 0)) 24)) (.cells (v8 (List.replicate 86 0)) 118)))
  generalize (World.alloc (World.alloc (World.alloc (World.alloc (World.alloc w (.cells (v8 nm) 22)) (.cells (v8 a) 24)) (.cells (v8 b) 24)) (.cells (v8 (List.replicate 32 0)) 24)) (.cells (v8 (List.replicate 86 0)) 118)) = w1 at r0 r1 r2 r3 r4 b1 ⊢
  have hr4 := r4.lt
  go_upto_region 3 with (first | (refine wpList_load_row (by rfl) 22 (.tmp 4) (by rfl) w.heap.size (by rfl) 22 (v8 nm) (0, 0) _ r0 Tryd.underlying22 rfl (name_info hn) ?_) | (go_at_call 72; (with_reducible refine Calls.mono (hhead _) ?_); rintro e w3 ⟨rfl, hb3⟩) | (refine store_row0 95 (.tmp 10) (.tmp 13) (by rfl) (by rfl) (by rfl) w3.heap.size (v8 H) (by rfl) (by rfl) 95 (v8 (List.replicate 22 0)) (Row.new w3 95 _) h95 (by rw [v8_size, v8_size, hHl]; simp) (v8_one _) ?_))
  have hs3 := hb3.size
  have p1 := ((r1.below hb3 (by omega)).alloc (.cells (v8 (List.replicate 22 0)) 95)).setRowOther (g := w3.heap.size) (by omega) (v8 H)
  have p2 := ((r2.below hb3 (by omega)).alloc (.cells (v8 (List.replicate 22 0)) 95)).setRowOther (g := w3.heap.size) (by omega) (v8 H)
  have p3 := ((r3.below hb3 (by omega)).alloc (.cells (v8 (List.replicate 22 0)) 95)).setRowOther (g := w3.heap.size) (by omega) (v8 H)
  have p4 := ((r4.below hb3 (by omega)).alloc (.cells (v8 (List.replicate 22 0)) 95)).setRowOther (g := w3.heap.size) (by omega) (v8 H)
  have p9 := (Row.new w3 95 (v8 (List.replicate 22 0))).setRow (v8 H)
  have pb : Below w.heap.size w ((w3.alloc (.cells (v8 (List.replicate 22 0)) 95)).setRow w3.heap.size (v8 H)) := below_setRow ((b1.trans (hb3.mono b1.size)).alloc (by omega) _) (by omega) _
  obtain ⟨gh, hgh⟩ : ∃ gh, gh = w3.heap.size := ⟨_, rfl⟩
  have hg : w.heap.size + 4 < gh := by omega
  change Code.wp _ _ _ _ ((w3.alloc (.cells (v8 (List.replicate 22 0)) 95)).setRow w3.heap.size (v8 H))
  rw [← hgh] at p1 p2 p3 p4 p9 pb ⊢
  generalize (w3.alloc (.cells (v8 (List.replicate 22 0)) 95)).setRow gh (v8 H) = w4 at p1 p2 p3 p4 p9 pb ⊢
  clear r0 r1 r2 r3 r4 b1 hb3 hgh hs3 hr4
  refine wp_region_quiet_tail 2 (by kernel_rfl) (by kernel_rfl) ?_
  simp only [List.take_succ_cons, List.take_zero, List.drop_succ_cons, List.drop_zero]
  repeat (go_big_quiet_step (fail))
  refine wpQuiet_nil ?_
  rintro _ ⟨nq, rfl⟩
  refine copy8 (w := w4.drewN nq) (.tmp 14) (.tmp 15) 28 28 (by rfl) (by rfl) 5 Tryd.underlying28 (by kernel_rfl) (some ⟨w.heap.size + 4, 0, none⟩) (some ⟨gh, 0, none⟩) 86 86 22 22 (by rfl) (by rfl) (w.heap.size + 4) (0) (List.replicate 86 0) 118 (p4.drewN nq) H (by rw [hHl]; rfl) (fun _ => rfl) ((p9.drewN nq).bytes) (by simp only [List.length_replicate, hHl]; omega) ?_
  simp only [Act.put, List.setIfInBounds_toArray, List.set_cons_succ, List.set_cons_zero]
  have hsp0 : spl (List.replicate 86 0) 0 H = (H ++ List.replicate 64 0) := by
    rw [spl_zero, hHl]
  rw [hsp0]
  have q1 := (p1.drewN nq).setRowOther (g := w.heap.size + 4) (by omega) (v8 (H ++ List.replicate 64 0))
  have q2 := (p2.drewN nq).setRowOther (g := w.heap.size + 4) (by omega) (v8 (H ++ List.replicate 64 0))
  have q3 := (p3.drewN nq).setRowOther (g := w.heap.size + 4) (by omega) (v8 (H ++ List.replicate 64 0))
  have q4 := (p4.drewN nq).setRow (v8 (H ++ List.replicate 64 0))
  have qb := below_setRow (g := w.heap.size + 4) (below_drewN pb nq) (by omega) (v8 (H ++ List.replicate 64 0))
  generalize (w4.drewN nq).setRow (w.heap.size + 4) (v8 (H ++ List.replicate 64 0)) = w5 at q1 q2 q3 q4 qb ⊢
  clear p1 p2 p3 p4 pb hsp0 p9
  go_upto_region 4 with fail
  refine wp_region_quiet_tail 2 (by kernel_rfl) (by kernel_rfl) ?_
  simp only [List.take_succ_cons, List.take_zero, List.drop_succ_cons, List.drop_zero]
  repeat (go_big_quiet_step (fail))
  refine wpQuiet_nil ?_
  rintro _ ⟨nq, rfl⟩
  refine copy8 (w := w5.drewN nq) (.tmp 17) (.tmp 18) 28 28 (by rfl) (by rfl) 5 Tryd.underlying28 (by kernel_rfl) (some ⟨w.heap.size + 4, 22, none⟩) (some ⟨w.heap.size + 1, 0, none⟩) 64 64 32 32 (by rfl) (by rfl) (w.heap.size + 4) (22) (H ++ List.replicate 64 0) 118 (q4.drewN nq) a (by rw [ha]; rfl) (fun _ => rfl) ((q1.drewN nq).bytes) (by simp only [List.length_append, List.length_replicate, hHl, ha]; omega) ?_
  simp only [Act.put, List.setIfInBounds_toArray, List.set_cons_succ, List.set_cons_zero]
  have hsp1 : spl (H ++ List.replicate 64 0) 22 a = (H ++ a ++ List.replicate 32 0) := by
    have hl : (H).length = 22 := hHl
    rw [← hl, spl_mid, ha]
  rw [hsp1]
  have r1 := (q1.drewN nq).setRowOther (g := w.heap.size + 4) (by omega) (v8 (H ++ a ++ List.replicate 32 0))
  have r2 := (q2.drewN nq).setRowOther (g := w.heap.size + 4) (by omega) (v8 (H ++ a ++ List.replicate 32 0))
  have r3 := (q3.drewN nq).setRowOther (g := w.heap.size + 4) (by omega) (v8 (H ++ a ++ List.replicate 32 0))
  have r4 := (q4.drewN nq).setRow (v8 (H ++ a ++ List.replicate 32 0))
  have rb := below_setRow (g := w.heap.size + 4) (below_drewN qb nq) (by omega) (v8 (H ++ a ++ List.replicate 32 0))
  generalize (w5.drewN nq).setRow (w.heap.size + 4) (v8 (H ++ a ++ List.replicate 32 0)) = w6 at r1 r2 r3 r4 rb ⊢
  clear q1 q2 q3 q4 qb hsp1
  go_upto_region 5 with fail
  refine wp_region_quiet_tail 2 (by kernel_rfl) (by kernel_rfl) ?_
  simp only [List.take_succ_cons, List.take_zero, List.drop_succ_cons, List.drop_zero]
  repeat (go_big_quiet_step (fail))
  refine wpQuiet_nil ?_
  rintro _ ⟨nq, rfl⟩
  refine copy8 (w := w6.drewN nq) (.tmp 20) (.tmp 21) 28 28 (by rfl) (by rfl) 5 Tryd.underlying28 (by kernel_rfl) (some ⟨w.heap.size + 4, 54, none⟩) (some ⟨w.heap.size + 2, 0, none⟩) 32 32 32 32 (by rfl) (by rfl) (w.heap.size + 4) (54) (H ++ a ++ List.replicate 32 0) 118 (r4.drewN nq) b (by rw [hb]; rfl) (fun _ => rfl) ((r2.drewN nq).bytes) (by simp only [List.length_append, List.length_replicate, hHl, ha, hb]; omega) ?_
  simp only [Act.put, List.setIfInBounds_toArray, List.set_cons_succ, List.set_cons_zero]
  have hsp2 : spl (H ++ a ++ List.replicate 32 0) 54 b = (H ++ a ++ b) := by
    have hl : (H ++ a).length = 54 := by simp only [List.length_append, hHl, ha]
    rw [← hl]; exact spl_end _ _ _ hb.symm
  rw [hsp2]
  have s1 := (r1.drewN nq).setRowOther (g := w.heap.size + 4) (by omega) (v8 (H ++ a ++ b))
  have s2 := (r2.drewN nq).setRowOther (g := w.heap.size + 4) (by omega) (v8 (H ++ a ++ b))
  have s3 := (r3.drewN nq).setRowOther (g := w.heap.size + 4) (by omega) (v8 (H ++ a ++ b))
  have s4 := (r4.drewN nq).setRow (v8 (H ++ a ++ b))
  have sb := below_setRow (g := w.heap.size + 4) (below_drewN rb nq) (by omega) (v8 (H ++ a ++ b))
  generalize (w6.drewN nq).setRow (w.heap.size + 4) (v8 (H ++ a ++ b)) = w7 at s1 s2 s3 s4 sb ⊢
  clear r1 r2 r3 r4 rb hsp2
  have hlX : (H ++ a ++ b).length = 86 := by simp only [List.length_append, hHl, ha, hb]
  obtain ⟨X, hX⟩ : ∃ X, (H ++ a ++ b) = X := ⟨_, rfl⟩
  rw [hX] at s4 hlX
  have hsum := hS.sum X (some ⟨w.heap.size + 4, 0, none⟩) 86 86 w7 hlX (by omega) (by omega) (hL.below sb) s4.bytes
  have hu := s4.lt
  go_wp2_with (first | (go_at_call 59; (with_reducible refine Calls.mono hsum ?_); rintro e w9 ⟨rfl, hb9⟩) | (refine store_row0 24 (.tmp 8) (.tmp 24) (by rfl) (by rfl) (by rfl) (w.heap.size + 3) (v8 (S X)) (by rfl) (by rfl) 24 _ (s3.below hb9 (by omega)) (hid X) (by rw [v8_size, v8_size, hS.len]; simp) (v8_one _) ?_))
  exact bodyPost_ret (results_cell_row Tryd.results66 _ _ (w.heap.size + 3) 24 (v8 (S X)) (0, 0) _ rfl ((s3.below hb9 (by omega)).setRow _) Tryd.underlying24 rfl (hid X)) rfl ⟨by rw [hX], below_setRow (sb.trans (hb9.mono sb.size)) (by omega) _⟩
end

section
open Go Go.RowKit

/-- The r-th 32 of a row. -/
def cutN (A : List Int) (r : Nat) : List Int := (A.drop (32 * r)).take 32
theorem cutN_len {A : List Int} {r : Nat} (h : 32 * r + 32 ≤ A.length) : (cutN A r).length = 32 := by simp [cutN]; omega
theorem cut_same {A x : List Int} {r : Nat} (hx : x.length = 32) (h : 32 * r + 32 ≤ A.length) : cutN (spl A (32 * r) x) r = x := by
  have h1 : (A.take (32 * r)).length = 32 * r := by simp; omega
  unfold cutN spl
  rw [List.drop_append_of_le_length (by omega), List.drop_of_length_le (by omega), List.nil_append, List.take_append_of_le_length (by omega), List.take_of_length_le (by omega)]
theorem cut_other {A x : List Int} {r s : Nat} (hx : x.length = 32) (h : 32 * r + 32 ≤ A.length) (hs : s ≠ r) : cutN (spl A (32 * r) x) s = cutN A s := by
  have h1 : (A.take (32 * r)).length = 32 * r := by simp; omega
  apply List.ext_getElem?
  intro i
  unfold cutN spl
  by_cases hi : i < 32
  · rw [List.getElem?_take_of_lt hi, List.getElem?_take_of_lt hi, List.getElem?_drop, List.getElem?_drop]
    by_cases hlt : s < r
    · rw [List.getElem?_append_left (by omega), List.getElem?_take_of_lt (by omega)]
    · rw [List.getElem?_append_right (by omega), h1, List.getElem?_append_right (by omega), List.getElem?_drop]
      congr 1
      omega
  · rw [List.getElem?_eq_none (by simp; omega), List.getElem?_eq_none (by simp; omega)]
theorem cut_rep (m r : Nat) (h : 32 * r + 32 ≤ m) : cutN (List.replicate m 0) r = List.replicate 32 0 := by
  unfold cutN
  rw [List.drop_replicate, List.take_replicate, Nat.min_eq_left (by omega)]
/-- A row of 64 hashes is told by them. -/
theorem cut_all {A : List Int} {f : Nat → List Int} (hA : A.length = 2048) (hf : ∀ i, (f i).length = 32) (h : ∀ j, j < 64 → cutN A j = f j) : A = catN f 64 := by
  have hl := catN_len hf 64
  apply List.ext_getElem?
  intro i
  by_cases hi : i < 2048
  · have e1 := h (i / 32) (by omega)
    have e2 := catN_cut hf 64 (i / 32) (by omega)
    have e3 := congrArg (·[i % 32]?) (e1.trans e2.symm)
    simp only [cutN] at e3
    rw [List.getElem?_take_of_lt (by omega), List.getElem?_take_of_lt (by omega), List.getElem?_drop, List.getElem?_drop, show 32 * (i / 32) + i % 32 = i by omega] at e3
    exact e3
  · rw [List.getElem?_eq_none (by omega), List.getElem?_eq_none (by omega)]
/-- All nodes of a tree, as a row of 64. -/
def treeL (N : Nat → List Int) (n : Nat) : List Int := catN (fun r => if 1 ≤ r ∧ r < 2 * n then N r else List.replicate 32 0) 64
theorem treeF_len {N : Nat → List Int} (hN : ∀ r, (N r).length = 32) (n : Nat) : ∀ i, (if 1 ≤ i ∧ i < 2 * n then N i else List.replicate 32 0).length = 32 := fun i => by
  split
  · exact hN i
  · exact List.length_replicate
theorem treeL_len {N : Nat → List Int} (hN : ∀ r, (N r).length = 32) (n : Nat) : (treeL N n).length = 2048 := catN_len (treeF_len hN n) 64
theorem treeL_cut {N : Nat → List Int} (hN : ∀ r, (N r).length = 32) (n r : Nat) (h1 : 1 ≤ r) (h2 : r < 2 * n) (h64 : r < 64) : cutN (treeL N n) r = N r := by
  have := catN_cut (treeF_len hN n) 64 r h64
  rw [if_pos ⟨h1, h2⟩] at this
  exact this
/-- The hash of node r in a tree of n leaves. -/
def nodeN (S : List Int → List Int) (nm seed : List Int) (n r : Nat) : List Int :=
  if h : 1 ≤ r ∧ r < n then S (nm ++ n4 (r : Int) ++ [131, 131] ++ nodeN S nm seed n (2 * r) ++ nodeN S nm seed n (2 * r + 1))
  else S (nm ++ n4 (r : Int) ++ [130, 130] ++ pubL S (nm ++ n4 ((r : Int) - n)) seed)
termination_by n - r
decreasing_by all_goals omega
theorem nodeN_len {S : List Int → List Int} (hS : ∀ l, (S l).length = 32) (nm seed : List Int) (n r : Nat) : (nodeN S nm seed n r).length = 32 := by
  rw [nodeN]; split <;> exact hS _
theorem nodeN_leaf (S : List Int → List Int) (nm seed : List Int) (n k : Nat) : nodeN S nm seed n (n + k) = S (nm ++ n4 ((n : Int) + k) ++ [130, 130] ++ pubL S (nm ++ n4 (k : Int)) seed) := by
  rw [nodeN, dif_neg (by omega), Int.natCast_add, show (n : Int) + k - n = k by omega]
theorem nodeN_above (S : List Int → List Int) (nm seed : List Int) (n r : Nat) (h : 1 ≤ r ∧ r < n) : nodeN S nm seed n r = S (nm ++ n4 (r : Int) ++ [131, 131] ++ nodeN S nm seed n (2 * r) ++ nodeN S nm seed n (2 * r + 1)) := by
  rw [nodeN, dif_pos h]
end

section
open Go.RowKit

theorem zv2048 (wx : World) : (zeroValue 77).run Tryd.prog wx = .ok (.agg (v8 (zer 2048))) wx := by kernel_rfl
theorem nodes_info {l : List Int} (h : l.length = 2048) : (Tryd.prog.info? 77).map (·.size) = some (v8 l).size := by rw [v8_size, h]; kernel_rfl
theorem spl_len32 {A x : List Int} {r : Nat} (hx : x.length = 32) (h : 32 * r + 32 ≤ A.length) : (spl A (32 * r) x).length = A.length := spl_length A _ _ (by omega)
theorem range_cut {w : World} {g : Nat} {t : TypeId} {A : List Int} (h : Row w g t (v8 A)) (r : Nat) (hr : 32 * r + 32 ≤ A.length) : w.rangeAt g (r * 32) (v8 (cutN A r)).toList := fun j v hv => by
  have hl := cutN_len hr
  have hj : j < 32 := by
    have := (List.getElem?_eq_some_iff.1 hv).1
    simpa [v8, hl] using this
  have e : gi (cutN A r) j = gi A (r * 32 + j) := by
    unfold gi cutN
    rw [List.getD_eq_getElem?_getD, List.getD_eq_getElem?_getD, List.getElem?_take_of_lt hj, List.getElem?_drop, Nat.mul_comm]
  rw [h.cell8 (by omega), ← hv, ← e]
  simp [v8, gi, hl, hj]
theorem q_load_cut {P : Program} {ops : Array Oper} {ι : Type} {W : ι → World} {Q : Act → Prop} {rest : List Oper} {o : Oper} {a : Act} (ty : TypeId) (x : Operand) (ho : o.op = .load ty x) (hgd : o.guard = none)
    (g r : Nat) (hx : a.eval x = .pointer (some ⟨g, r * 32, none⟩)) (t : TypeId) (A : List Int) (d : TypeDesc) (hr : ∀ i, Row (W i) g t (v8 A)) (hA : 32 * r + 32 ≤ A.length)
    (hu : P.underlying ty = some d) (hd : d.isRow = true) (hi : (P.info? ty).map (·.size) = some 32)
    (h : wpQuiet P ops (fun w' => ∃ i, w' = W i) Q rest (a.put o.dst (.agg (v8 (cutN A r))))) : wpQuiet P ops (fun w' => ∃ i, w' = W i) Q (o :: rest) a := by
  unfold wpQuiet
  simp only [Region.wanted, hgd, if_true]
  refine ⟨.agg (v8 (cutN A r)), fun w hw => ?_, h⟩
  obtain ⟨i, rfl⟩ := hw
  have hrun := run_loadVar_mid (P := P) (W i) g (r * 32) ty (v8 (cutN A r)).toList d (range_cut (hr i) r hA) hu hd (by rw [hi]; simp [v8, cutN_len hA])
  rw [show (v8 (cutN A r)).toList.toArray = v8 (cutN A r) by simp] at hrun
  unfold Oper.quietAt execOp
  simp only [ho, hx, Instr.loadAt, Instr.sureAddr, Sem.run_bind, Sem.run_pure, Result.andThen_ok, hrun]
  exact ⟨rfl, rfl⟩

set_option maxRecDepth 20000 in
set_option maxHeartbeats 1000000 in
theorem grow_any (S : List Int → List Int) (hS : Hash S) (nm seed : List Int) (h : Nat) (w : World) (hL : Laid w) (hn : nm.length = 16) (hs : seed.length = 32) (h1 : 1 ≤ h) (h5 : h ≤ 5) :
    Calls Tryd.prog 45 #[.agg (v8 nm), .agg (v8 seed), .int .i64 (h : Int)] w fun e w' => e = .returned (.agg (v8 (treeL (nodeN S nm seed (2 ^ h)) (2 ^ h)))) ∧ Below w.heap.size w w' := by
  have hlv := fun wx => leaves_any h wx h1 h5
  obtain ⟨n, hnd⟩ : ∃ n, n = 2 ^ h := ⟨_, rfl⟩
  have hn2 : 2 ≤ n ∧ n ≤ 32 := by
    subst hnd
    rcases (by omega : h = 1 ∨ h = 2 ∨ h = 3 ∨ h = 4 ∨ h = 5) with rfl | rfl | rfl | rfl | rfl <;> decide
  rw [← hnd] at hlv ⊢
  clear hnd
  have hNl : ∀ r, (nodeN S nm seed n r).length = 32 := nodeN_len (fun l => hS.len l) nm seed n
  have hlf : ∀ (k : Nat) wx, Laid wx → Calls Tryd.prog 65 #[.agg (v8 nm), .int .i64 ((n : Int) + (k : Int)), .agg (v8 (pubL S (nm ++ n4 (k : Int)) seed))] wx fun e w' => e = .returned (.agg (v8 (nodeN S nm seed n (n + k)))) ∧ Below wx.heap.size wx w' := fun k wx hl => by
    rw [nodeN_leaf]; exact lleaf_any S hS nm _ _ wx hl hn (hS.len _)
  have hpb : ∀ (k : Nat) wx, Laid wx → Calls Tryd.prog 15 #[.agg (v8 nm), .int .i64 (k : Int), .agg (v8 seed)] wx fun e w' => e = .returned (.agg (v8 (pubL S (nm ++ n4 (k : Int)) seed))) ∧ Below wx.heap.size wx w' := fun k wx hl => Public_any S hS nm seed k wx hl hn hs
  have hab : ∀ (r : Nat) wx, Laid wx → 1 ≤ r ∧ r < n → Calls Tryd.prog 66 #[.agg (v8 nm), .int .i64 (r : Int), .agg (v8 (nodeN S nm seed n (2 * r))), .agg (v8 (nodeN S nm seed n (2 * r + 1)))] wx fun e w' => e = .returned (.agg (v8 (nodeN S nm seed n r))) ∧ Below wx.heap.size wx w' := fun r wx hl hr => by
    rw [nodeN_above S nm seed n r hr]; exact above_any S hS nm _ _ _ wx hl hn (hNl _) (hNl _)
  generalize nodeN S nm seed n = N at *
  have hPl : ∀ k : Nat, (pubL S (nm ++ n4 (k : Int)) seed).length = 32 := fun k => hS.len _
  have z2048 := zv2048
  go_enter Tryd.func45, Tryd.ntmps45
  go_upto_region 2 with fail
  have r0 : Row (World.alloc (World.alloc (World.alloc (World.alloc w (.cells (v8 nm) 22)) (.cells (v8 seed) 24)) (.cells (v8 (zer 2048)) 77)) (.cells (v8 (zer 2048)) 77)) w.heap.size 22 (v8 nm) := (((Row.new _ _ _).alloc _).alloc _).alloc _
  have r1 : Row (World.alloc (World.alloc (World.alloc (World.alloc w (.cells (v8 nm) 22)) (.cells (v8 seed) 24)) (.cells (v8 (zer 2048)) 77)) (.cells (v8 (zer 2048)) 77)) (w.heap.size + 1) 24 (v8 seed) := ((Row.newAt _ _ _ _ (by simp)).alloc _).alloc _
  have r2 : Row (World.alloc (World.alloc (World.alloc (World.alloc w (.cells (v8 nm) 22)) (.cells (v8 seed) 24)) (.cells (v8 (zer 2048)) 77)) (.cells (v8 (zer 2048)) 77)) (w.heap.size + 2) 77 (v8 (zer 2048)) := (Row.newAt _ _ _ _ (by simp)).alloc _
  have r3 : Row (World.alloc (World.alloc (World.alloc (World.alloc w (.cells (v8 nm) 22)) (.cells (v8 seed) 24)) (.cells (v8 (zer 2048)) 77)) (.cells (v8 (zer 2048)) 77)) (w.heap.size + 3) 77 (v8 (zer 2048)) := Row.newAt _ _ _ _ (by simp)
  have b1 : Below w.heap.size w (World.alloc (World.alloc (World.alloc (World.alloc w (.cells (v8 nm) 22)) (.cells (v8 seed) 24)) (.cells (v8 (zer 2048)) 77)) (.cells (v8 (zer 2048)) 77)) := ((((Below.refl _ _).alloc (Nat.le_refl _) _).alloc (by simp) _).alloc (by simp; omega) _).alloc (by simp; omega) _
  change Code.wp _ _ _ _ ((World.alloc (World.alloc (World.alloc (World.alloc w (.cells (v8 nm) 22)) (.cells (v8 seed) 24)) (.cells (v8 (zer 2048)) 77)) (.cells (v8 (zer 2048)) 77)))
  generalize (World.alloc (World.alloc (World.alloc (World.alloc w (.cells (v8 nm) 22)) (.cells (v8 seed) 24)) (.cells (v8 (zer 2048)) 77)) (.cells (v8 (zer 2048)) 77)) = w1 at r0 r1 r2 r3 b1 ⊢
  go_wp2_with (go_at_call 49; (with_reducible refine Calls.mono (hlv _) ?_); rintro e w2 ⟨rfl, hw⟩; obtain rfl := hw.symm; clear hw)
  clear z2048 hlv
  go_loopw [14] (fun v wr => ∃ (k : Nat) (A : List Int), k ≤ n ∧ v = .int .i64 (k : Int) ∧ A.length = 2048 ∧ (∀ j, j < 64 → cutN A j = if n ≤ j ∧ j < n + k then N j else List.replicate 32 0) ∧ Row wr w.heap.size 22 (v8 nm) ∧ Row wr (w.heap.size + 1) 24 (v8 seed) ∧ Row wr (w.heap.size + 2) 77 (v8 (zer 2048)) ∧ Row wr (w.heap.size + 3) 77 (v8 A) ∧ Below w.heap.size w wr) (fun v _ => n - (intOf v).toNat)
  case atStart => exact ⟨0, zer 2048, by omega, rfl, zer_len _, (fun j hj => by rw [if_neg (by omega)]; exact cut_rep 2048 j (by omega)), r0, r1, r2, r3, b1⟩
  case round =>
    clear r0 r1 r2 r3 b1
    obtain ⟨k, A, hk, rfl, hAl, hcut, z0, z1, z2, z3, zb⟩ := hrel
    by_cases hlt : k < n
    · have hlt' : (k : Int) < (n : Int) := by omega
      have hix : (n : Int) + (k : Int) < 64 := by omega
      go_upto_region 6 with fail
      refine region_tail 13 (by kernel_rfl) (by kernel_rfl) (by kernel_rfl) ?_
      apply Exists.intro
      refine ⟨fun ι _ W hb hc => ?_, fun w6 hb6 => ?_⟩
      · have t0 : ∀ i, Row (W i) w.heap.size 22 (v8 nm) := fun i => z0.below (hb i) z0.lt
        have t1 : ∀ i, Row (W i) (w.heap.size + 1) 24 (v8 seed) := fun i => z1.below (hb i) z1.lt
        have tL : ∀ i, Laid (W i) := fun i => hL.below (zb.trans ((hb i).mono zb.size))
        simp only [List.take_succ_cons, List.take_zero]
        iterate 3 (go_big_quiet_step (fail))
        refine q_load_row 22 (.tmp 3) (by rfl) (by rfl) w.heap.size (by rfl) 22 _ _ t0 Tryd.underlying22 rfl (name_info hn) ?_
        simp only [Act.put, List.setIfInBounds_toArray, List.set_cons_succ, List.set_cons_zero]
        iterate 3 (go_big_quiet_step (fail))
        refine q_load_row 22 (.tmp 3) (by rfl) (by rfl) w.heap.size (by rfl) 22 _ _ t0 Tryd.underlying22 rfl (name_info hn) ?_
        simp only [Act.put, List.setIfInBounds_toArray, List.set_cons_succ, List.set_cons_zero]
        go_big_quiet_step (fail)
        refine q_load_row 24 (.tmp 4) (by rfl) (by rfl) (w.heap.size + 1) (by rfl) 24 _ _ t1 Tryd.underlying24 rfl (id_info hs) ?_
        simp only [Act.put, List.setIfInBounds_toArray, List.set_cons_succ, List.set_cons_zero]
        go_big_quiet_step ((go_at_call 15; exact (hpb k _ (tL _)).mono (fun e w' ⟨he, hw⟩ => ⟨he, hc _ _ hw⟩)))
        go_big_quiet_step ((go_at_call 65; exact (hlf k _ (tL _)).mono (fun e w' ⟨he, hw⟩ => ⟨he, hc _ _ hw⟩)))
        go_big_quiet_step (fail)
        exact wpQuiet_nil rfl
      · simp only [List.drop_succ_cons, List.drop_zero]
        have v0 := z0.below hb6 z0.lt
        have v1 := z1.below hb6 z1.lt
        have v2 := z2.below hb6 z2.lt
        have v3 := z3.below hb6 z3.lt
        have vb := zb.trans (hb6.mono zb.size)
        refine store_mid8 24 (.tmp 29) (.tmp 28) (by rfl) (by rfl) (by rfl) (w.heap.size + 3) ((n + k) * 32) (N (n + k)) (by rfl) (by rfl) 77 A v3 (id_info (hNl _)) (by rw [hNl, hAl]; omega) ?_
        rw [Nat.mul_comm (n + k) 32]
        have hA2 : (spl A (32 * (n + k)) (N (n + k))).length = 2048 := by rw [spl_len32 (hNl _) (by omega)]; exact hAl
        have hc2 : ∀ j, j < 64 → cutN (spl A (32 * (n + k)) (N (n + k))) j = if n ≤ j ∧ j < n + (k + 1) then N j else List.replicate 32 0 := fun j hj => by
          by_cases e : j = n + k
          · subst e; rw [cut_same (hNl _) (by omega), if_pos (by omega)]
          · rw [cut_other (hNl _) (by omega) e, hcut j hj]
            by_cases e2 : n ≤ j ∧ j < n + k
            · rw [if_pos e2, if_pos (by omega)]
            · rw [if_neg e2, if_neg (by omega)]
        generalize spl A (32 * (n + k)) (N (n + k)) = A2 at *
        have u0 := v0.setRowOther (g := w.heap.size + 3) (by omega) (v8 A2)
        have u1 := v1.setRowOther (g := w.heap.size + 3) (by omega) (v8 A2)
        have u2 := v2.setRowOther (g := w.heap.size + 3) (by omega) (v8 A2)
        have u3 := v3.setRow (v8 A2)
        have ub := below_setRow (g := w.heap.size + 3) vb (by omega) (v8 A2)
        generalize w6.setRow (w.heap.size + 3) (v8 A2) = w7 at u0 u1 u2 u3 ub ⊢
        clear v0 v1 v2 v3 vb z0 z1 z2 z3 zb hb6 hcut hAl
        go_wp2
        go_roundw
        case rel => exact ⟨k + 1, A2, by omega, by go_num, hA2, hc2, u0, u1, u2, u3, ub⟩
        case measure => simp [intOf]; omega
    · obtain rfl : k = n := by omega
      go_wp2
      go_loopw [10] (fun v wr => ∃ (r : Nat) (A : List Int), r < k ∧ v = .int .i64 (r : Int) ∧ A.length = 2048 ∧ (∀ j, j < 64 → cutN A j = if r < j ∧ j < 2 * k then N j else List.replicate 32 0) ∧ Row wr w.heap.size 22 (v8 nm) ∧ Row wr (w.heap.size + 1) 24 (v8 seed) ∧ Row wr (w.heap.size + 2) 77 (v8 (zer 2048)) ∧ Row wr (w.heap.size + 3) 77 (v8 A) ∧ Below w.heap.size w wr) (fun v _ => (intOf v).toNat)
      case atStart =>
        refine ⟨k - 1, A, by omega, ?_, hAl, (fun j h1 => ?_), z0, z1, z2, z3, zb⟩
        · rw [show ((k - 1 : Nat) : Int) = (k : Int) - 1 by omega]
        · rw [hcut j h1]
          by_cases e2 : k ≤ j ∧ j < k + k
          · rw [if_pos e2, if_pos (by omega)]
          · rw [if_neg e2, if_neg (by omega)]
      case round =>
        clear z0 z1 z2 z3 zb hcut hAl
        obtain ⟨r, A, hr, rfl, hAl, hcut, z0, z1, z2, z3, zb⟩ := hrel
        by_cases hr0 : 0 < r
        · have hc1 := hcut (2 * r) (by omega)
          have hc2 := hcut (2 * r + 1) (by omega)
          rw [if_pos (by omega)] at hc1 hc2
          go_upto_region 11 with fail
          refine region_tail 14 (by kernel_rfl) (by kernel_rfl) (by kernel_rfl) ?_
          apply Exists.intro
          refine ⟨fun ι _ W hb hc => ?_, fun w6 hb6 => ?_⟩
          · have t0 : ∀ i, Row (W i) w.heap.size 22 (v8 nm) := fun i => z0.below (hb i) z0.lt
            have t3 : ∀ i, Row (W i) (w.heap.size + 3) 77 (v8 A) := fun i => z3.below (hb i) z3.lt
            have tL : ∀ i, Laid (W i) := fun i => hL.below (zb.trans ((hb i).mono zb.size))
            have hi32 : (Tryd.prog.info? 24).map (·.size) = some 32 := by kernel_rfl
            simp only [List.take_succ_cons, List.take_zero]
            go_big_quiet_step (fail)
            refine q_load_row 22 (.tmp 3) (by rfl) (by rfl) w.heap.size (by rfl) 22 _ _ t0 Tryd.underlying22 rfl (name_info hn) ?_
            simp only [Act.put, List.setIfInBounds_toArray, List.set_cons_succ, List.set_cons_zero]
            iterate 4 (go_big_quiet_step (fail))
            refine q_load_cut 24 (.tmp 42) (by rfl) (by rfl) (w.heap.size + 3) (2 * r) (by rfl) 77 A _ t3 (by omega) Tryd.underlying24 rfl hi32 ?_
            simp only [Act.put, List.setIfInBounds_toArray, List.set_cons_succ, List.set_cons_zero]
            rw [hc1]
            iterate 4 (go_big_quiet_step (fail))
            refine q_load_cut 24 (.tmp 47) (by rfl) (by rfl) (w.heap.size + 3) (2 * r + 1) (by rfl) 77 A _ t3 (by omega) Tryd.underlying24 rfl hi32 ?_
            simp only [Act.put, List.setIfInBounds_toArray, List.set_cons_succ, List.set_cons_zero]
            rw [hc2]
            go_big_quiet_step ((go_at_call 66; exact (hab r _ (tL _) ⟨hr0, hr⟩).mono (fun e w' ⟨he, hw⟩ => ⟨he, hc _ _ hw⟩)))
            go_big_quiet_step (fail)
            exact wpQuiet_nil rfl
          · simp only [List.drop_succ_cons, List.drop_zero]
            have v0 := z0.below hb6 z0.lt
            have v1 := z1.below hb6 z1.lt
            have v2 := z2.below hb6 z2.lt
            have v3 := z3.below hb6 z3.lt
            have vb := zb.trans (hb6.mono zb.size)
            refine store_mid8 24 (.tmp 50) (.tmp 49) (by rfl) (by rfl) (by rfl) (w.heap.size + 3) (r * 32) (N r) (by rfl) (by rfl) 77 A v3 (id_info (hNl _)) (by rw [hNl, hAl]; omega) ?_
            rw [Nat.mul_comm r 32]
            have hA2 : (spl A (32 * r) (N r)).length = 2048 := by rw [spl_len32 (hNl _) (by omega)]; exact hAl
            have hc3 : ∀ j, j < 64 → cutN (spl A (32 * r) (N r)) j = if r - 1 < j ∧ j < 2 * k then N j else List.replicate 32 0 := fun j h1 => by
              by_cases e : j = r
              · subst e; rw [cut_same (hNl _) (by omega), if_pos (by omega)]
              · rw [cut_other (hNl _) (by omega) e, hcut j h1]
                by_cases e2 : r < j ∧ j < 2 * k
                · rw [if_pos e2, if_pos (by omega)]
                · rw [if_neg e2, if_neg (by omega)]
            generalize spl A (32 * r) (N r) = A2 at *
            have u0 := v0.setRowOther (g := w.heap.size + 3) (by omega) (v8 A2)
            have u1 := v1.setRowOther (g := w.heap.size + 3) (by omega) (v8 A2)
            have u2 := v2.setRowOther (g := w.heap.size + 3) (by omega) (v8 A2)
            have u3 := v3.setRow (v8 A2)
            have ub := below_setRow (g := w.heap.size + 3) vb (by omega) (v8 A2)
            generalize w6.setRow (w.heap.size + 3) (v8 A2) = w7 at u0 u1 u2 u3 ub ⊢
            clear v0 v1 v2 v3 vb z0 z1 z2 z3 zb hb6 hcut hAl hc1 hc2
            go_wp2
            go_roundw
            case rel => exact ⟨r - 1, A2, by omega, by rw [show ((r - 1 : Nat) : Int) = (r : Int) - 1 by omega], hA2, hc3, u0, u1, u2, u3, ub⟩
            case measure => simp [intOf]; omega
        · obtain rfl : r = 0 := by omega
          have hAt' : treeL N k = A := Eq.symm <| cut_all hAl (treeF_len hNl k) (fun j hj => by rw [hcut j hj]; rfl)
          go_wp2_with (first | (refine wpList_load_row (by rfl) 77 (.tmp 7) (by rfl) (w.heap.size + 3) (by rfl) 77 (v8 A) (0, 0) _ z3 Tryd.underlying77 rfl (nodes_info hAl) ?_) | (refine store_row0 77 (.tmp 6) (.tmp 51) (by rfl) (by rfl) (by rfl) (w.heap.size + 2) (v8 A) (by rfl) (by rfl) 77 _ z2 (nodes_info hAl) (by rw [v8_size, v8_size, hAl, zer_len]) (v8_one _) ?_))
          exact bodyPost_ret (results_cell_row Tryd.results45 _ _ (w.heap.size + 2) 77 (v8 A) (0, 0) _ rfl (z2.setRow _) Tryd.underlying77 rfl (nodes_info hAl)) rfl ⟨by rw [hAt'], below_setRow zb (by omega) _⟩
end

section
open Go Go.RowKit
variable {P : Program}

/-- How many of the first m are not listed yet. -/
def left (listed : Array Bool) : Nat → Nat
  | 0 => 0
  | m + 1 => left listed m + (if listed.getD m false then 0 else 1)
theorem left_set {listed : Array Bool} {i : Nat} (hi : i < listed.size) (hf : listed.getD i false = false) : ∀ m, (i < m → left (listed.setIfInBounds i true) m + 1 = left listed m) ∧ (m ≤ i → left (listed.setIfInBounds i true) m = left listed m)
  | 0 => ⟨fun h => by omega, fun _ => rfl⟩
  | m + 1 => by
    obtain ⟨h1, h2⟩ := left_set hi hf m
    refine ⟨fun h => ?_, fun h => ?_⟩
    · by_cases e : i = m
      · subst e
        have := h2 (Nat.le_refl _)
        simp only [left, this, hf]
        simp [hi]
      · have := h1 (by omega)
        simp only [left]
        rw [getD_set_ne false e]
        omega
    · have := h2 (by omega)
      simp only [left, this]
      rw [getD_set_ne false (by omega)]
theorem left_zero {listed : Array Bool} : ∀ m, left listed m = 0 → ∀ i, i < m → listed.getD i false = true
  | 0, _, i, hi => by omega
  | m + 1, h, i, hi => by
    simp only [left] at h
    by_cases e : i = m
    · subst e
      cases hq : listed.getD i false
      · rw [hq] at h; simp at h
      · rfl
    · exact left_zero m (by omega) i (by omega)
theorem left_some {listed : Array Bool} : ∀ m, left listed m ≠ 0 → ∃ i, i < m ∧ listed.getD i false = false ∧ ∀ j, j < i → listed.getD j false = true
  | 0, h => absurd rfl h
  | m + 1, h => by
    by_cases h0 : left listed m = 0
    · refine ⟨m, by omega, ?_, left_zero m h0⟩
      simp only [left, h0] at h
      cases hq : listed.getD m false
      · rfl
      · rw [hq] at h; simp at h
    · obtain ⟨i, h1, h2, h3⟩ := left_some m h0
      exact ⟨i, by omega, h2, h3⟩
theorem left_none (k : Nat) : ∀ m, left (Array.replicate k false) m = m
  | 0 => rfl
  | m + 1 => by simp only [left, left_none k m, getD_replicate_false]; simp

def headTrue (n k : Nat) : Array Bool := (List.range k).map (fun i => decide (i < n)) |>.toArray
def invB (ops : Array Oper) (n : Nat) : Bool :=
  decide (n < ops.size) && Region.sinkB .any ops n && Region.chainB .any ops n &&
  ((List.range n).all fun i => match ops[i]? with | some o => o.after.all fun e => !Region.binds .any e || decide (e.on < i) | none => false) &&
  Region.seqB .any ops (ops.size - n) n (headTrue n ops.size)

theorem region_inv {id : Nat} {Q : Exit → Act → World → Prop} {a : Act} {w : World} {l : List Oper} (n : Nat) (hm : P.follows .mixedOrders = true) (hB : invB l.toArray n = true)
    (J : Array Bool → Act → World → Prop) (h0 : J (Array.replicate l.toArray.size false) a (w.drewN 1))
    (hstep : ∀ listed a w i o, listed.size = l.toArray.size → J listed a w → i < n → l.toArray[i]? = some o → listed.getD i false = false → (∀ e ∈ o.after, Region.binds .any e = true → listed.getD e.on false = true) → (∀ j oj, l.toArray[j]? = some oj → listed.getD j false = true → ∀ e ∈ oj.after, Region.binds .any e = true → listed.getD e.on false = true) → wpOp P l.toArray Q i (J (listed.setIfInBounds i true)) a w)
    (hend : ∀ listed a w, (∀ i, i < n → listed.getD i false = true) → J listed a w → wpList P l.toArray Q (l.drop n) a w) : (Code.region id l.toArray true).wp P Q a w := by
  simp only [invB, Bool.and_eq_true, decide_eq_true_eq] at hB
  obtain ⟨⟨⟨⟨hn, hs⟩, hc⟩, hback⟩, hseq⟩ := hB
  have hdl : (l.drop n).length = l.toArray.size - n := by simp
  have inv0 : HeadInv .any l.toArray n (Array.replicate l.toArray.size false) :=
    ⟨by simp, fun j oj _ hj => (by rw [getD_replicate_false] at hj; cases hj), fun t _ ht => getD_in (by simpa using ht) (getD_replicate_false _ _)⟩
  have key : ∀ (f : Nat) (listed : Array Bool) (a : Act) (w : World), left listed n = f → HeadInv .any l.toArray n listed → J listed a w → wpAny P .any l.toArray Q (f + (l.toArray.size - n)) listed a w := by
    intro f
    induction f with
    | zero =>
      intro listed a w hf inv hJ
      have hall := left_zero n hf
      have hl : listed = headTrue n l.toArray.size := by
        apply Array.ext
        · rw [inv.size]; simp [headTrue]
        · intro i h1 h2
          by_cases hi : i < n
          · have := hall i hi
            simp [h1] at this
            simp [headTrue, this, hi]
          · have := inv.tail i (by omega) (by rw [← inv.size]; exact h1)
            simp [h1] at this
            simp [headTrue, this, hi]
      have := wpAny_of_seq (P := P) (md := .any) (Q' := Q) (l.drop n) n listed a w (fun j => by simp [List.getElem?_drop]) (by rw [hdl, hl]; exact hseq) (hend listed a w hall hJ)
      rw [hdl] at this
      rw [Nat.zero_add]; exact this
    | succ f ih =>
      intro listed a w hf inv hJ
      obtain ⟨i0, hi0, hun, hbef⟩ := left_some n (by rw [hf]; omega)
      have hi0s : i0 < l.toArray.size := by omega
      have hun' : listed.getD i0 true = false := getD_in (by rw [inv.size]; exact hi0s) hun
      have hb0 := List.all_eq_true.1 hback i0 (List.mem_range.2 hi0)
      have hr0 : i0 ∈ Region.ready .any l.toArray listed := by
        refine mem_ready.2 ⟨hun', l.toArray[i0], by simp, fun e he hbe => ?_⟩
        rw [Array.getElem?_eq_getElem hi0s] at hb0
        simp only at hb0
        have h1 := Array.all_eq_true_iff_forall_mem.1 hb0 e he
        simp only [hbe, Bool.not_true, Bool.false_or, decide_eq_true_eq] at h1
        exact hbef e.on h1
      rw [show f + 1 + (l.toArray.size - n) = (f + (l.toArray.size - n)) + 1 by omega]
      refine ⟨fun h1 => (by rw [h1] at hr0; cases hr0), fun i hi => ?_⟩
      obtain ⟨hiun, o, ho, hall⟩ := mem_ready.1 hi
      have hin : i < n := Nat.lt_of_not_le fun hle => tail_waits hs hc hn inv _ i0 rfl hi0 hun' i hle hi
      have his : i < listed.size := by rw [inv.size]; exact (Array.getElem?_eq_some_iff.1 ho).1
      have hif := getD_both hiun
      refine wpOp_mono (fun a' w' hJ' => ih _ a' w' ?_ (inv.set hi hin) hJ') (hstep listed a w i o inv.size hJ hin ho hif hall inv.closed)
      have := (left_set his hif n).1 hin
      omega
  refine wp_region_any hm ?_
  have := key n _ a (w.drewN 1) (left_none _ n) inv0 h0
  rw [show n + (l.toArray.size - n) = l.toArray.size by omega] at this
  exact this

theorem region_invF {id : Nat} {Q : Exit → Act → World → Prop} {a : Act} {w : World} {l : List Oper} (n : Nat) (hm : P.follows .mixedOrders = true) (hB : invB l.toArray n = true)
    (J : Act → Array Bool → Act → World → Prop) (h0 : J a (Array.replicate l.toArray.size false) a (w.drewN 1))
    (hstep : ∀ listed a' w i o, listed.size = l.toArray.size → J a listed a' w → i < n → l.toArray[i]? = some o → listed.getD i false = false → (∀ e ∈ o.after, Region.binds .any e = true → listed.getD e.on false = true) → (∀ j oj, l.toArray[j]? = some oj → listed.getD j false = true → ∀ e ∈ oj.after, Region.binds .any e = true → listed.getD e.on false = true) → wpOp P l.toArray Q i (J a (listed.setIfInBounds i true)) a' w)
    (hend : ∀ listed a' w, (∀ i, i < n → listed.getD i false = true) → J a listed a' w → wpList P l.toArray Q (l.drop n) a' w) : (Code.region id l.toArray true).wp P Q a w :=
  region_inv n hm hB (J a) h0 hstep hend

def invAB (ops : Array Oper) : Bool := (List.range ops.size).all fun i => match ops[i]? with | some o => o.after.all fun e => !Region.binds .any e || decide (e.on < i) | none => false
/-- All operations in whatever order. -/
theorem region_invFA {id : Nat} {Q : Exit → Act → World → Prop} {a : Act} {w : World} {l : List Oper} (hm : P.follows .mixedOrders = true) (hback : invAB l.toArray = true)
    (J : Act → Array Bool → Act → World → Prop) (h0 : J a (Array.replicate l.toArray.size false) a (w.drewN 1))
    (hstep : ∀ listed a' w i o, listed.size = l.toArray.size → J a listed a' w → i < l.toArray.size → l.toArray[i]? = some o → listed.getD i false = false → (∀ e ∈ o.after, Region.binds .any e = true → listed.getD e.on false = true) → (∀ j oj, l.toArray[j]? = some oj → listed.getD j false = true → ∀ e ∈ oj.after, Region.binds .any e = true → listed.getD e.on false = true) → wpOp P l.toArray Q i (J a (listed.setIfInBounds i true)) a' w)
    (hend : ∀ listed a' w, (∀ i, i < l.toArray.size → listed.getD i false = true) → J a listed a' w → Q .normal a' w) : (Code.region id l.toArray true).wp P Q a w := by
  have inv0 : HeadInv .any l.toArray l.toArray.size (Array.replicate l.toArray.size false) :=
    ⟨by simp, fun j oj _ hj => (by rw [getD_replicate_false] at hj; cases hj), fun t h1 h2 => by omega⟩
  have key : ∀ (f : Nat) (listed : Array Bool) (a' : Act) (w : World), left listed l.toArray.size = f → HeadInv .any l.toArray l.toArray.size listed → J a listed a' w → wpAny P .any l.toArray Q f listed a' w := by
    intro f
    induction f with
    | zero =>
      intro listed a' w hf inv hJ
      have hall := left_zero _ hf
      refine ⟨?_, hend listed a' w hall hJ⟩
      cases hq : Region.ready .any l.toArray listed with
      | nil => rfl
      | cons i rs =>
        have hi : i ∈ Region.ready .any l.toArray listed := by rw [hq]; simp
        obtain ⟨hun, o, ho, _⟩ := mem_ready.1 hi
        have := hall i (Array.getElem?_eq_some_iff.1 ho).1
        rw [getD_both hun] at this
        cases this
    | succ f ih =>
      intro listed a' w hf inv hJ
      obtain ⟨i0, hi0, hun, hbef⟩ := left_some l.toArray.size (by rw [hf]; omega)
      have hun' : listed.getD i0 true = false := getD_in (by rw [inv.size]; exact hi0) hun
      have hb0 := List.all_eq_true.1 hback i0 (List.mem_range.2 hi0)
      have hr0 : i0 ∈ Region.ready .any l.toArray listed := by
        refine mem_ready.2 ⟨hun', l.toArray[i0], by simp, fun e he hbe => ?_⟩
        rw [Array.getElem?_eq_getElem hi0] at hb0
        simp only at hb0
        have h1 := Array.all_eq_true_iff_forall_mem.1 hb0 e he
        simp only [hbe, Bool.not_true, Bool.false_or, decide_eq_true_eq] at h1
        exact hbef e.on h1
      refine ⟨fun h1 => (by rw [h1] at hr0; cases hr0), fun i hi => ?_⟩
      obtain ⟨hiun, o, ho, hall⟩ := mem_ready.1 hi
      have his' := (Array.getElem?_eq_some_iff.1 ho).1
      have his : i < listed.size := by rw [inv.size]; exact his'
      have hif := getD_both hiun
      refine wpOp_mono (fun a2 w' hJ' => ih _ a2 w' ?_ (inv.set hi his') hJ') (hstep listed a' w i o inv.size hJ his' ho hif hall inv.closed)
      have := (left_set his hif l.toArray.size).1 his'
      omega
  refine wp_region_any hm ?_
  exact key _ _ a (w.drewN 1) (left_none _ _) inv0 h0

/-! ### One operation -/
theorem inv_op {ops : Array Oper} {Q : Exit → Act → World → Prop} {i : Nat} {o : Oper} {K : Act → World → Prop} {a : Act} {w : World} (ho : ops[i]? = some o) (hg : o.guard = none) (h : Oper.wp P o a w K Q) : wpOp P ops Q i K a w := by
  unfold wpOp
  simp only [ho, Region.wanted, hg, if_true]
  exact .inl h
/-- It yields v in that very world. -/
theorem inv_val {ops : Array Oper} {Q : Exit → Act → World → Prop} {i : Nat} {o : Oper} {K : Act → World → Prop} {a : Act} {w w' : World} (v : Value) (ho : ops[i]? = some o) (hg : o.guard = none) (hr : (execOp a.eval o).run P w = .ok (.value v) w') (h : K (a.put o.dst v) w') : wpOp P ops Q i K a w := by
  refine inv_op ho hg ?_
  unfold Oper.wp
  rw [hr]
  exact h
/-- It calls a function of the program. -/
theorem inv_call {ops : Array Oper} {Q : Exit → Act → World → Prop} {i : Nat} {o : Oper} {K : Act → World → Prop} {a : Act} {w : World} (f : FuncId) (vs : Array Value) (R : Ending → World → Prop) (ho : ops[i]? = some o) (hg : o.guard = none) (hr : (execOp a.eval o).run P w = .ok (.enter f vs) w) (hc : Calls P f vs w R) (h : ∀ e w', R e w' → ∃ v, e = .returned v ∧ K (a.put o.dst v) w') : wpOp P ops Q i K a w := by
  refine inv_op ho hg ?_
  unfold Oper.wp
  rw [hr]
  exact hc.mono fun e w' hR => by
    obtain ⟨v, rfl, hk⟩ := h e w' hR
    exact hk
theorem bit_ne {listed : Array Bool} {i j : Nat} {b : Bool} (h : (listed.setIfInBounds i true).getD j false = b) (hij : i ≠ j) : listed.getD j false = b := by rwa [getD_set_ne false hij] at h
theorem bit_on {listed : Array Bool} {i : Nat} (hi : i < listed.size) : (listed.setIfInBounds i true).getD i false = true := by simp [hi]
end

section
open Go

theorem gi_chunk (T : List Int) (t j : Nat) (ht : t % 64 = 0) (hj : j < 64) : gi (chunk T (t / 64)) j = gi T (t + j) := by
  have : 64 * (t / 64) = t := by omega
  simp [gi, chunk, this, hj]
def sch16 (C lw : List Int) (k : Nat) : List Int := putN (put16 C) lw k
theorem sch16_length {C lw : List Int} (h : lw.length = 64) (k : Nat) : (sch16 C lw k).length = 64 := by unfold sch16; rw [putN_length (put16_length C), h]
def sch48 (C lw : List Int) (k : Nat) : List Int := putN put48 (sch16 C lw 16) k
theorem sch48_length {C lw : List Int} (h : lw.length = 64) (k : Nat) : (sch48 C lw k).length = 64 := by unfold sch48; rw [putN_length put48_length, sch16_length h]
theorem sch48_succ (C lw : List Int) (k : Nat) : sch48 C lw (k + 1) = ext (sch48 C lw k) (16 + k) := rfl
theorem sch16_succ (C lw : List Int) (k : Nat) : sch16 C lw (k + 1) = put16 C (sch16 C lw k) k := rfl

def S8.list (s : S8) : List Int := [s.a, s.b, s.c, s.d, s.e, s.f, s.g, s.h]
def plusN (S A : S8) : Nat → List Int
  | 0 => S.list
  | k + 1 => (plusN S A k).set k ((gi (plusN S A k) k + gi A.list k) % 4294967296)
theorem plusN_length (S A : S8) : ∀ k, (plusN S A k).length = 8
  | 0 => rfl
  | k + 1 => by rw [plusN, List.length_set, plusN_length S A k]
theorem plusN_8 (S A : S8) : v32 (plusN S A 8) = (S.plus A).row := rfl
def outN (S : S8) : Nat → List Int
  | 0 => List.replicate 32 0
  | k + 1 => ((((outN S k).set (4 * k) (S.at k / 16777216 % 256)).set (4 * k + 1) (S.at k / 65536 % 256)).set (4 * k + 2) (S.at k / 256 % 256)).set (4 * k + 3) (S.at k % 256)
theorem outN_length (S : S8) : ∀ k, (outN S k).length = 32
  | 0 => by simp [outN]
  | k + 1 => by rw [outN, List.length_set, List.length_set, List.length_set, List.length_set, outN_length S k]
theorem spl_four (a b c d : Int) : ∀ (i : Nat) (l : List Int), i + 4 ≤ l.length → spl l i [a, b, c, d] = (((l.set i a).set (i + 1) b).set (i + 2) c).set (i + 3) d
  | 0, p :: q :: r :: s :: t, _ => rfl
  | 0, [], h => by simp at h
  | 0, [_], h => by simp at h
  | 0, [_, _], h => by simp at h
  | 0, [_, _, _], h => by simp at h
  | i + 1, [], h => by simp at h
  | i + 1, x :: l, h => by
    have ih := spl_four a b c d i l (by simp at h; omega)
    have e : spl (x :: l) (i + 1) [a, b, c, d] = x :: spl l i [a, b, c, d] := by simp [spl, show i + 1 + 4 = (i + 4) + 1 by omega]
    rw [e, ih]
    simp [List.set_cons_succ, show i + 1 + 1 = (i + 1) + 1 by omega, show i + 1 + 2 = (i + 2) + 1 by omega, show i + 1 + 3 = (i + 3) + 1 by omega]
theorem outN_id (S : S8) : ∀ k, k ≤ 8 → outN S k = idN S k
  | 0, _ => rfl
  | k + 1, h => by
    rw [outN, idN, outN_id S k (by omega), wbytes, spl_four _ _ _ _ _ _ (by rw [idN_length S k (by omega)]; omega)]

/-- The first t places do not hang on what lay there before. -/
theorem put_agree {l l' : List Int} {t : Nat} (hl : l.length = l'.length) (h : ∀ j, j < t → gi l j = gi l' j) (v : Int) : ∀ j, j < t + 1 → gi (l.set t v) j = gi (l'.set t v) j := fun j hj => by
  by_cases e : t = j
  · subst e
    by_cases hlt : t < l.length
    · rw [show gi (l.set t v) t = v by simp [gi, hlt], show gi (l'.set t v) t = v by simp [gi, ← hl, hlt]]
    · simp [gi, show ¬ t < l'.length by omega, hlt]
  · rw [show gi (l.set t v) j = gi l j by simp [gi, List.getElem?_set_ne e], show gi (l'.set t v) j = gi l' j by simp [gi, List.getElem?_set_ne e]]
    exact h j (by omega)
theorem sch16_agree (C : List Int) {lw lw' : List Int} (h1 : lw.length = 64) (h2 : lw'.length = 64) : ∀ k, ∀ j, j < k → gi (sch16 C lw k) j = gi (sch16 C lw' k) j
  | 0, j, hj => by omega
  | k + 1, j, hj => by
    rw [sch16_succ, sch16_succ, put16, put16]
    exact put_agree (by rw [sch16_length h1, sch16_length h2]) (sch16_agree C h1 h2 k) _ j hj
theorem sch48_agree (C : List Int) {lw lw' : List Int} (h1 : lw.length = 64) (h2 : lw'.length = 64) : ∀ k, ∀ j, j < 16 + k → gi (sch48 C lw k) j = gi (sch48 C lw' k) j
  | 0, j, hj => sch16_agree C h1 h2 16 j (by omega)
  | k + 1, j, hj => by
    have ih := sch48_agree C h1 h2 k
    rw [sch48_succ, sch48_succ, ext, ext, ih (16 + k - 2) (by omega), ih (16 + k - 7) (by omega), ih (16 + k - 15) (by omega), ih (16 + k - 16) (by omega)]
    exact put_agree (by rw [sch48_length h1, sch48_length h2]) ih _ j (by omega)
theorem sch48_sched {C lw : List Int} (h : lw.length = 64) : sch48 C lw 48 = sched C := by
  have h0 : zeros64.length = 64 := rfl
  refine eq_of_gi (by rw [sch48_length h, sched_length]) (fun j hj => ?_)
  rw [sch48_length h] at hj
  exact sch48_agree C h h0 48 j (by omega)

/-- What the round of the great loop leaves as it was. -/
def RefEnv (w : World) (gk gt : Nat) (T : List Int) (wx : World) : Prop :=
  Row wx gk 98 (v32 kWords) ∧ (∀ j, j < T.length → wx.cell? ⟨gt, j, none⟩ = some (.int .u8 (gi T j))) ∧ Row wx w.heap.size 24 (v8 (List.replicate 32 0)) ∧ RowKit.Below w.heap.size w wx
theorem RefEnv.drewN {w wx : World} {gk gt : Nat} {T : List Int} (h : RefEnv w gk gt T wx) (n : Nat) : RefEnv w gk gt T (wx.drewN n) := ⟨h.1.drewN n, h.2.1, h.2.2.1.drewN n, below_drewN h.2.2.2 n⟩
theorem RefEnv.setCell {w wx : World} {gk gt b : Nat} {T : List Int} (h : RefEnv w gk gt T wx) (h1 : gk ≠ b) (h2 : gt ≠ b) (h3 : w.heap.size < b) (j : Nat) (v : Value) : RefEnv w gk gt T (wx.setCell ⟨b, j, none⟩ v) :=
  ⟨h.1.setOther h1 v, fun i hi => by rw [World.cell?_setCell_other _ _ _ _ (by intro e; injection e with e1; exact h2 e1.symm)]; exact h.2.1 i hi, h.2.2.1.setOther (by show w.heap.size ≠ b; omega) v, h.2.2.2.setCell (by show w.heap.size ≤ b; omega) v⟩
theorem RefEnv.setRow {w wx : World} {gk gt b : Nat} {T : List Int} (h : RefEnv w gk gt T wx) (h1 : gk ≠ b) (h2 : gt ≠ b) (h3 : w.heap.size < b) (cs : Array Value) : RefEnv w gk gt T (wx.setRow b cs) :=
  ⟨h.1.setRowOther h1 cs, fun i hi => by rw [cell_setRow_other _ _ _ _ (by show gt ≠ b; exact h2)]; exact h.2.1 i hi, h.2.2.1.setRowOther (by omega) cs, below_setRow h.2.2.2 (by omega) cs⟩
theorem RefEnv.alloc {w wx : World} {gk gt : Nat} {T : List Int} (h : RefEnv w gk gt T wx) (o : Obj) : RefEnv w gk gt T (wx.alloc o) :=
  ⟨h.1.alloc o, fun i hi => by rw [World.cell?_alloc_lt _ _ _ (block_lt_of_cell (h.2.1 i hi))]; exact h.2.1 i hi, h.2.2.1.alloc o, h.2.2.2.alloc h.2.2.2.size o⟩
end

section
open Go.RowKit

def loopsOf : Code → List Code
  | .loop c => c :: loopsOf c
  | .seq a b => loopsOf a ++ loopsOf b
  | .block _ c => loopsOf c
  | .scope c => loopsOf c
  | .cond _ a b => loopsOf a ++ loopsOf b
  | _ => []
end

end Go.Proofs.YtoebnkepeledmaaDoor
