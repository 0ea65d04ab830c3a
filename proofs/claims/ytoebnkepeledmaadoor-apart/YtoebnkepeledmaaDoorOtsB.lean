/- Of ots: a leaf, a step, a chain's start, a walk along a chain; S is the hash that Sum answers. No old memory turns. -/
import Derived.Test.YtoebnkepeledmaaDoorOtsA
namespace Go.Proofs.YtoebnkepeledmaaDoor
open Go.RowKit

/-- S is the hash, and no more is told of it than that Sum answers it, of 32 bytes. -/
def Hash (S : List Int → List Int) : Prop := S = shaS
theorem Hash.len {S : List Int → List Int} (h : Hash S) (l : List Int) : (S l).length = 32 := by subst h; exact idN_length _ 8 (by omega)
theorem Hash.sum {S : List Int → List Int} (h : Hash S) (bs : List Int) (sp : Option Addr) (len cap : Nat) (w : World) (hlen : bs.length = len) (hcap : len ≤ cap) (hmax : len ≤ 72057594037927936) (hl : Laid w) (hby : Bytes w sp bs) :
    Calls Tryd.prog 59 #[.slice sp len cap] w fun e w' => e = .returned (.agg (v8 (S bs))) ∧ Below w.heap.size w w' := by subst h; exact sum_any bs sp len cap w hlen hcap hmax hl hby

set_option maxRecDepth 20000 in
set_option maxHeartbeats 300000 in
theorem leafOf_any (nm : List Int) (q : Int) (w : World) (hn : nm.length = 16) :
    Calls Tryd.prog 29 #[.agg (v8 nm), .int .i64 q] w fun e w' => e = .returned (.agg (v8 (nm ++ n4 q))) ∧ Below w.heap.size w w' := by
  have hl : (nm ++ n4 q).length = 20 := by rw [List.length_append, hn, n4_len]
  have hi : (Tryd.prog.info? 55).map (·.size) = some (v8 (nm ++ n4 q)).size := by rw [v8_size, hl]; kernel_rfl
  have h4 : (Tryd.prog.info? 66).map (·.size) = some (v8 (n4 q)).size := by rw [v8_size]; kernel_rfl
  have hfour : ∀ wx, Calls Tryd.prog 37 #[.int .u32 (q % 4294967296)] wx fun e w' => e = .returned (.agg (v8 (n4 q))) ∧ Below wx.heap.size wx w' := fun wx => by
    have := four_any (q % 4294967296) wx
    rwa [← IntKind.wrap_u32, n4_wrap] at this
  go_enter Tryd.func29, Tryd.ntmps29
  go_upto_region 2 with fail
  have r0 : Row (World.alloc (World.alloc (World.alloc w (.cells (v8 nm) 22)) (.cells (v8 (List.replicate 20 0)) 55)) (.cells (v8 (List.replicate 20 0)) 55)) w.heap.size 22 (v8 nm) := ((Row.new _ _ _).alloc _).alloc _
  have r1 : Row (World.alloc (World.alloc (World.alloc w (.cells (v8 nm) 22)) (.cells (v8 (List.replicate 20 0)) 55)) (.cells (v8 (List.replicate 20 0)) 55)) (w.heap.size + 1) 55 (v8 (List.replicate 20 0)) := (Row.newAt _ _ _ _ (by simp)).alloc _
  have r2 : Row (World.alloc (World.alloc (World.alloc w (.cells (v8 nm) 22)) (.cells (v8 (List.replicate 20 0)) 55)) (.cells (v8 (List.replicate 20 0)) 55)) (w.heap.size + 2) 55 (v8 (List.replicate 20 0)) := Row.newAt _ _ _ _ (by simp)
  have b1 : Below w.heap.size w (World.alloc (World.alloc (World.alloc w (.cells (v8 nm) 22)) (.cells (v8 (List.replicate 20 0)) 55)) (.cells (v8 (List.replicate 20 0)) 55)) := (((Below.refl _ _).alloc (Nat.le_refl _) _).alloc (by simp) _).alloc (by simp; omega) _
  change Code.wp _ _ _ _ ((World.alloc (World.alloc (World.alloc w (.cells (v8 nm) 22)) (.cells (v8 (List.replicate 20 0)) 55)) (.cells (v8 (List.replicate 20 0)) 55)))
  generalize (World.alloc (World.alloc (World.alloc w (.cells (v8 nm) 22)) (.cells (v8 (List.replicate 20 0)) 55)) (.cells (v8 (List.replicate 20 0)) 55)) = w1 at r0 r1 r2 b1 ⊢
  refine wp_region_quiet_tail 2 (by kernel_rfl) (by kernel_rfl) ?_
  simp only [List.take_succ_cons, List.take_zero, List.drop_succ_cons, List.drop_zero]
  repeat (go_big_quiet_step (fail))
  refine wpQuiet_nil ?_
  rintro _ ⟨nq, rfl⟩
  refine copy8 (w := w1.drewN nq) (.tmp 7) (.tmp 8) 28 28 (by rfl) (by rfl) 5 Tryd.underlying28 (by kernel_rfl) (some ⟨w.heap.size + 2, 0, none⟩) (some ⟨w.heap.size, 0, none⟩) 20 20 16 16 (by rfl) (by rfl) (w.heap.size + 2) (0) (List.replicate 20 0) 55 (r2.drewN nq) nm (by rw [hn]; rfl) (fun _ => rfl) ((r0.drewN nq).bytes) (by simp; omega) ?_
  simp only [Act.put, List.setIfInBounds_toArray, List.set_cons_succ, List.set_cons_zero]
  rw [spl_zero, hn]
  have q1 := (r1.drewN nq).setRowOther (g := w.heap.size + 2) (by omega) (v8 (nm ++ List.replicate (20 - 16) 0))
  have q2 := (r2.drewN nq).setRow (v8 (nm ++ List.replicate (20 - 16) 0))
  have qb := below_setRow (g := w.heap.size + 2) (below_drewN b1 nq) (by omega) (v8 (nm ++ List.replicate (20 - 16) 0))
  generalize (w1.drewN nq).setRow (w.heap.size + 2) (v8 (nm ++ List.replicate (20 - 16) 0)) = w2 at q1 q2 qb ⊢
  have hq2 := q2.lt
  go_upto_region 4 with (first | (go_at_call 37; (with_reducible refine Calls.mono (hfour _) ?_); rintro e w3 ⟨rfl, hb3⟩) | (refine store_row0 66 (.tmp 6) (.tmp 12) (by rfl) (by rfl) (by rfl) w3.heap.size (v8 (n4 q)) (by rfl) (by rfl) 66 (v8 (List.replicate 4 0)) (Row.new w3 66 _) h4 (by simp [v8_size, n4_len]) (v8_one _) ?_))
  have hs3 := hb3.size
  have p1 := ((q1.below hb3 (by omega)).alloc (.cells (v8 (List.replicate 4 0)) 66)).setRowOther (g := w3.heap.size) (by omega) (v8 (n4 q))
  have p2 := ((q2.below hb3 (by omega)).alloc (.cells (v8 (List.replicate 4 0)) 66)).setRowOther (g := w3.heap.size) (by omega) (v8 (n4 q))
  have p3 := (Row.new w3 66 (v8 (List.replicate 4 0))).setRow (v8 (n4 q))
  have pb : Below w.heap.size w ((w3.alloc (.cells (v8 (List.replicate 4 0)) 66)).setRow w3.heap.size (v8 (n4 q))) := below_setRow ((qb.trans (hb3.mono qb.size)).alloc (by have := qb.size; omega) _) (by have := qb.size; omega) _
  change Code.wp _ _ _ _ ((w3.alloc (.cells (v8 (List.replicate 4 0)) 66)).setRow w3.heap.size (v8 (n4 q)))
  have hg : w.heap.size + 2 < w3.heap.size := by omega
  generalize (w3.alloc (.cells (v8 (List.replicate 4 0)) 66)).setRow w3.heap.size (v8 (n4 q)) = w4 at p1 p2 p3 pb ⊢
  refine wp_region_quiet_tail 2 (by kernel_rfl) (by kernel_rfl) ?_
  simp only [List.take_succ_cons, List.take_zero, List.drop_succ_cons, List.drop_zero]
  repeat (go_big_quiet_step (fail))
  refine wpQuiet_nil ?_
  rintro _ ⟨nq, rfl⟩
  refine copy8 (w := w4.drewN nq) (.tmp 13) (.tmp 14) 28 28 (by rfl) (by rfl) 5 Tryd.underlying28 (by kernel_rfl) (some ⟨w.heap.size + 2, 16, none⟩) (some ⟨w3.heap.size, 0, none⟩) 4 4 4 4 (by rfl) (by rfl) (w.heap.size + 2) (16) (nm ++ List.replicate (20 - 16) 0) 55 (p2.drewN nq) (n4 q) rfl (fun _ => rfl) ((p3.drewN nq).bytes) (by simp [hn, n4_len]) ?_
  simp only [Act.put, List.setIfInBounds_toArray, List.set_cons_succ, List.set_cons_zero]
  rw [show spl (nm ++ List.replicate (20 - 16) 0) 16 (n4 q) = nm ++ n4 q by rw [← hn]; exact spl_end _ _ _ (by rw [hn]; rfl)]
  have s1 := (p1.drewN nq).setRowOther (g := w.heap.size + 2) (by omega) (v8 (nm ++ n4 q))
  have s2 := (p2.drewN nq).setRow (v8 (nm ++ n4 q))
  have sb := below_setRow (g := w.heap.size + 2) (below_drewN pb nq) (by omega) (v8 (nm ++ n4 q))
  generalize (w4.drewN nq).setRow (w.heap.size + 2) (v8 (nm ++ n4 q)) = w5 at s1 s2 sb ⊢
  go_wp2_with (first | (refine wpList_load_row (by rfl) 55 (.tmp 5) (by rfl) (w.heap.size + 2) (by rfl) 55 (v8 (nm ++ n4 q)) (0, 0) _ s2 Tryd.underlying55 rfl hi ?_) | (refine store_row0 55 (.tmp 4) (.tmp 16) (by rfl) (by rfl) (by rfl) (w.heap.size + 1) (v8 (nm ++ n4 q)) (by rfl) (by rfl) 55 _ s1 hi (by rw [v8_size, v8_size, hl]; simp) (v8_one _) ?_))
  exact bodyPost_ret (results_cell_row Tryd.results29 _ _ (w.heap.size + 1) 55 (v8 (nm ++ n4 q)) (0, 0) _ rfl (s1.setRow _) Tryd.underlying55 rfl hi) rfl ⟨rfl, below_setRow sb (by omega) _⟩

set_option maxRecDepth 20000 in
set_option maxHeartbeats 300000 in
theorem step_any (S : List Int → List Int) (hS : Hash S) (H t : List Int) (i j : Int) (w : World) (hL : Laid w) (hH : H.length = 20) (ht : t.length = 32) (hi0 : 0 ≤ i) (hi1 : i < 65536) (hj0 : 0 ≤ j) (hj1 : j < 256) :
    Calls Tryd.prog 57 #[.agg (v8 H), .int .i64 i, .int .i64 j, .agg (v8 t)] w fun e w' => e = .returned (.agg (v8 (stepL S H i j t))) ∧ Below w.heap.size w w' := by
  unfold stepL
  have hHl : (H ++ n2 i).length = 22 := by rw [List.length_append, hH, n2_len]
  have h95 : (Tryd.prog.info? 95).map (·.size) = some (v8 (H ++ n2 i)).size := by rw [v8_size, hHl]; kernel_rfl
  have h55 : (Tryd.prog.info? 55).map (·.size) = some (v8 H).size := by rw [v8_size, hH]; kernel_rfl
  have hid : ∀ l, (Tryd.prog.info? 24).map (·.size) = some (v8 (S l)).size := fun l => by rw [v8_size, hS.len]; kernel_rfl
  have wi : IntKind.u16.wrap i = i := by rw [IntKind.wrap_u16]; omega
  have wj : j % 256 = j := by omega
  have hhead : ∀ wx, Calls Tryd.prog 58 #[.agg (v8 H), .int .u16 i] wx fun e w' => e = .returned (.agg (v8 (H ++ n2 i))) ∧ Below wx.heap.size wx w' := fun wx => head_any H i wx hH
  go_enter Tryd.func57, Tryd.ntmps57
  go_upto_region 2 with fail
  have r0 : Row (World.alloc (World.alloc (World.alloc (World.alloc w (.cells (v8 H) 55)) (.cells (v8 t) 24)) (.cells (v8 (List.replicate 32 0)) 24)) (.cells (v8 (List.replicate 55 0)) 110)) w.heap.size 55 (v8 H) := (((Row.new _ _ _).alloc _).alloc _).alloc _
  have r1 : Row (World.alloc (World.alloc (World.alloc (World.alloc w (.cells (v8 H) 55)) (.cells (v8 t) 24)) (.cells (v8 (List.replicate 32 0)) 24)) (.cells (v8 (List.replicate 55 0)) 110)) (w.heap.size + 1) 24 (v8 t) := ((Row.newAt _ _ _ _ (by simp)).alloc _).alloc _
  have r2 : Row (World.alloc (World.alloc (World.alloc (World.alloc w (.cells (v8 H) 55)) (.cells (v8 t) 24)) (.cells (v8 (List.replicate 32 0)) 24)) (.cells (v8 (List.replicate 55 0)) 110)) (w.heap.size + 2) 24 (v8 (List.replicate 32 0)) := (Row.newAt _ _ _ _ (by simp)).alloc _
  have r3 : Row (World.alloc (World.alloc (World.alloc (World.alloc w (.cells (v8 H) 55)) (.cells (v8 t) 24)) (.cells (v8 (List.replicate 32 0)) 24)) (.cells (v8 (List.replicate 55 0)) 110)) (w.heap.size + 3) 110 (v8 (List.replicate 55 0)) := Row.newAt _ _ _ _ (by simp)
  have b1 : Below w.heap.size w (World.alloc (World.alloc (World.alloc (World.alloc w (.cells (v8 H) 55)) (.cells (v8 t) 24)) (.cells (v8 (List.replicate 32 0)) 24)) (.cells (v8 (List.replicate 55 0)) 110)) := ((((Below.refl _ _).alloc (Nat.le_refl _) _).alloc (by simp) _).alloc (by simp; omega) _).alloc (by simp; omega) _
  change Code.wp _ _ _ _ ((World.alloc (World.alloc (World.alloc (World.alloc w (.cells (v8 H) 55)) (.cells (v8 t) 24)) (.cells (v8 (List.replicate 32 0)) 24)) (.cells (v8 (List.replicate 55 0)) 110)))
  generalize (World.alloc (World.alloc (World.alloc (World.alloc w (.cells (v8 H) 55)) (.cells (v8 t) 24)) (.cells (v8 (List.replicate 32 0)) 24)) (.cells (v8 (List.replicate 55 0)) 110)) = w1 at r0 r1 r2 r3 b1 ⊢
  have hr3 := r3.lt
  go_upto_region 3 with (first | (refine wpList_load_row (by rfl) 55 (.tmp 4) (by rfl) w.heap.size (by rfl) 55 (v8 H) (0, 0) _ r0 Tryd.underlying55 rfl h55 ?_) | (go_at_call 58; (with_reducible refine Calls.mono (hhead _) ?_); rintro e w3 ⟨rfl, hb3⟩) | (refine store_row0 95 (.tmp 10) (.tmp 14) (by rfl) (by rfl) (by rfl) w3.heap.size (v8 (H ++ n2 i)) (by rfl) (by rfl) 95 (v8 (List.replicate 22 0)) (Row.new w3 95 _) h95 (by rw [v8_size, v8_size, hHl]; simp) (v8_one _) ?_))
  have hs3 := hb3.size
  have p1 := ((r1.below hb3 (by omega)).alloc (.cells (v8 (List.replicate 22 0)) 95)).setRowOther (g := w3.heap.size) (by omega) (v8 (H ++ n2 i))
  have p2 := ((r2.below hb3 (by omega)).alloc (.cells (v8 (List.replicate 22 0)) 95)).setRowOther (g := w3.heap.size) (by omega) (v8 (H ++ n2 i))
  have p3 := ((r3.below hb3 (by omega)).alloc (.cells (v8 (List.replicate 22 0)) 95)).setRowOther (g := w3.heap.size) (by omega) (v8 (H ++ n2 i))
  have p4 := (Row.new w3 95 (v8 (List.replicate 22 0))).setRow (v8 (H ++ n2 i))
  have pb : Below w.heap.size w ((w3.alloc (.cells (v8 (List.replicate 22 0)) 95)).setRow w3.heap.size (v8 (H ++ n2 i))) := below_setRow ((b1.trans (hb3.mono b1.size)).alloc (by omega) _) (by omega) _
  change Code.wp _ _ _ _ ((w3.alloc (.cells (v8 (List.replicate 22 0)) 95)).setRow w3.heap.size (v8 (H ++ n2 i)))
  have hg : w.heap.size + 3 < w3.heap.size := by omega
  generalize (w3.alloc (.cells (v8 (List.replicate 22 0)) 95)).setRow w3.heap.size (v8 (H ++ n2 i)) = w4 at p1 p2 p3 p4 pb ⊢
  refine wp_region_quiet_tail 2 (by kernel_rfl) (by kernel_rfl) ?_
  simp only [List.take_succ_cons, List.take_zero, List.drop_succ_cons, List.drop_zero]
  repeat (go_big_quiet_step (fail))
  refine wpQuiet_nil ?_
  rintro _ ⟨nq, rfl⟩
  refine copy8 (w := w4.drewN nq) (.tmp 15) (.tmp 16) 28 28 (by rfl) (by rfl) 5 Tryd.underlying28 (by kernel_rfl) (some ⟨w.heap.size + 3, 0, none⟩) (some ⟨w3.heap.size, 0, none⟩) 55 55 22 22 (by rfl) (by rfl) (w.heap.size + 3) (0) (List.replicate 55 0) 110 (p3.drewN nq) (H ++ n2 i) (by rw [hHl]; rfl) (fun _ => rfl) ((p4.drewN nq).bytes) (by rw [hHl]; simp) ?_
  simp only [Act.put, List.setIfInBounds_toArray, List.set_cons_succ, List.set_cons_zero]
  rw [spl_zero, hHl]
  have q1 := (p1.drewN nq).setRowOther (g := w.heap.size + 3) (by omega) (v8 (H ++ n2 i ++ List.replicate (55 - 22) 0))
  have q2 := (p2.drewN nq).setRowOther (g := w.heap.size + 3) (by omega) (v8 (H ++ n2 i ++ List.replicate (55 - 22) 0))
  have q3 := (p3.drewN nq).setRow (v8 (H ++ n2 i ++ List.replicate (55 - 22) 0))
  have qb := below_setRow (g := w.heap.size + 3) (below_drewN pb nq) (by omega) (v8 (H ++ n2 i ++ List.replicate (55 - 22) 0))
  generalize (w4.drewN nq).setRow (w.heap.size + 3) (v8 (H ++ n2 i ++ List.replicate (55 - 22) 0)) = w5 at q1 q2 q3 qb ⊢
  have c0 : w5.cell? ⟨w.heap.size + 3, 22, none⟩ = some _ := q3.cell8 (by rw [List.length_append, hHl]; simp)
  have f0 : w5.frozen? ⟨w.heap.size + 3, 22, none⟩ = false := q3.frozen
  have s3 := q3.set8 22 j
  have e3 : List.set (H ++ n2 i ++ List.replicate (55 - 22) 0) 22 j = H ++ n2 i ++ [j] ++ List.replicate 32 0 := by
    have := set_end (H ++ n2 i) (55 - 22) j (by omega)
    rwa [hHl] at this
  rw [e3] at s3
  have s1 := q1.setOther (a := ⟨w.heap.size + 3, 22, none⟩) (by show w.heap.size + 1 ≠ w.heap.size + 3; omega) (.int .u8 j)
  have s2 := q2.setOther (a := ⟨w.heap.size + 3, 22, none⟩) (by show w.heap.size + 2 ≠ w.heap.size + 3; omega) (.int .u8 j)
  have sb := qb.setCell (p := ⟨w.heap.size + 3, 22, none⟩) (by show w.heap.size ≤ w.heap.size + 3; omega) (.int .u8 j)
  go_upto_region 5 with fail
  generalize w5.setCell ⟨w.heap.size + 3, 22, none⟩ (.int .u8 j) = w6 at s1 s2 s3 sb ⊢
  have hl3 : (H ++ n2 i ++ [j]).length = 23 := by rw [List.length_append, hHl]; rfl
  refine wp_region_quiet_tail 2 (by kernel_rfl) (by kernel_rfl) ?_
  simp only [List.take_succ_cons, List.take_zero, List.drop_succ_cons, List.drop_zero]
  repeat (go_big_quiet_step (fail))
  refine wpQuiet_nil ?_
  rintro _ ⟨nq, rfl⟩
  refine copy8 (w := w6.drewN nq) (.tmp 21) (.tmp 22) 28 28 (by rfl) (by rfl) 5 Tryd.underlying28 (by kernel_rfl) (some ⟨w.heap.size + 3, 23, none⟩) (some ⟨w.heap.size + 1, 0, none⟩) 32 32 32 32 (by rfl) (by rfl) (w.heap.size + 3) (23) (H ++ n2 i ++ [j] ++ List.replicate 32 0) 110 (s3.drewN nq) t (by rw [ht]; rfl) (fun _ => rfl) ((s1.drewN nq).bytes) (by rw [List.length_append, hl3, ht]; simp) ?_
  simp only [Act.put, List.setIfInBounds_toArray, List.set_cons_succ, List.set_cons_zero]
  rw [show spl (H ++ n2 i ++ [j] ++ List.replicate 32 0) 23 t = H ++ n2 i ++ [j] ++ t by rw [← hl3]; exact spl_end _ _ _ ht.symm]
  have u2 := (s2.drewN nq).setRowOther (g := w.heap.size + 3) (by omega) (v8 (H ++ n2 i ++ [j] ++ t))
  have u3 := (s3.drewN nq).setRow (v8 (H ++ n2 i ++ [j] ++ t))
  have ub := below_setRow (g := w.heap.size + 3) (below_drewN sb nq) (by omega) (v8 (H ++ n2 i ++ [j] ++ t))
  generalize (w6.drewN nq).setRow (w.heap.size + 3) (v8 (H ++ n2 i ++ [j] ++ t)) = w7 at u2 u3 ub ⊢
  have hl4 : (H ++ n2 i ++ [j] ++ t).length = 55 := by rw [List.length_append, hl3, ht]
  generalize hX : H ++ n2 i ++ [j] ++ t = X at *
  have hsum := hS.sum X (some ⟨w.heap.size + 3, 0, none⟩) 55 55 w7 hl4 (by omega) (by omega) (hL.below ub) u3.bytes
  have hu3 := u3.lt
  go_wp2_with (first | (go_at_call 59; (with_reducible refine Calls.mono hsum ?_); rintro e w8 ⟨rfl, hb8⟩) | (refine store_row0 24 (.tmp 8) (.tmp 25) (by rfl) (by rfl) (by rfl) (w.heap.size + 2) (v8 (S X)) (by rfl) (by rfl) 24 _ (u2.below hb8 (by omega)) (hid X) (by rw [v8_size, v8_size, hS.len]; simp) (v8_one _) ?_))
  exact bodyPost_ret (results_cell_row Tryd.results57 _ _ (w.heap.size + 2) 24 (v8 (S X)) (0, 0) _ rfl ((u2.below hb8 (by omega)).setRow _) Tryd.underlying24 rfl (hid X)) rfl ⟨by rw [hX], below_setRow (ub.trans (hb8.mono ub.size)) (by omega) _⟩
end Go.Proofs.YtoebnkepeledmaaDoor
