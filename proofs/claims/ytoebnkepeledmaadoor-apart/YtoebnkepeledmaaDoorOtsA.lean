/- The first steps of ots: a number's four bytes, a leaf, what stands ahead in a hash: the plain lists; no old memory turns. -/
import Derived.Test.YtoebnkepeledmaaDoorSum
import Derived.Test.YtoebnkepeledmaaDoorPad
import Derived.Deep.CutRange
import Derived.Test.YtoebnkepeledmaaDoorOtsMath
namespace Go.Proofs.YtoebnkepeledmaaDoor
open Go.RowKit

theorem n4_wrap (q : Int) : n4 (IntKind.u32.wrap q) = n4 q := by
  rw [IntKind.wrap_u32]
  unfold n4
  have h1 : q % 4294967296 / 16777216 % 256 = q / 16777216 % 256 := by omega
  have h2 : q % 4294967296 / 65536 % 256 = q / 65536 % 256 := by omega
  have h3 : q % 4294967296 / 256 % 256 = q / 256 % 256 := by omega
  have h4 : q % 4294967296 % 256 = q % 256 := by omega
  rw [h1, h2, h3, h4]

theorem Bytes.drewN {w : World} {sp : Option Addr} {cs : List Int} (h : Bytes w sp cs) (n : Nat) : Bytes (w.drewN n) sp cs := h
theorem spl_zero (n : Nat) (x : List Int) : spl (List.replicate n 0) 0 x = x ++ List.replicate (n - x.length) 0 := by simp [spl]
theorem spl_end (x y : List Int) (n : Nat) (hn : n = y.length) : spl (x ++ List.replicate n 0) x.length y = x ++ y := by subst hn; simp [spl]
theorem spl_mid (x y : List Int) (n : Nat) : spl (x ++ List.replicate n 0) x.length y = x ++ y ++ List.replicate (n - y.length) 0 := by
  simp [spl, List.drop_append]
theorem set_end (x : List Int) (n : Nat) (v : Int) (hn : 0 < n) : (x ++ List.replicate n 0).set x.length v = x ++ [v] ++ List.replicate (n - 1) 0 := by
  obtain ⟨m, rfl⟩ : ∃ m, n = m + 1 := ⟨n - 1, by omega⟩
  simp [List.replicate_succ]

set_option maxRecDepth 20000 in
set_option maxHeartbeats 1000000 in
theorem four_any (n : Int) (w : World) :
    Calls Tryd.prog 37 #[.int .u32 n] w fun e w' => e = .returned (.agg (v8 (n4 n))) ∧ Below w.heap.size w w' := by
  have hi : (Tryd.prog.info? 66).map (·.size) = some (v8 (n4 n)).size := by rw [v8_size]; kernel_rfl
  go_enter Tryd.func37, Tryd.ntmps37
  go_wp2_with (refine store_row0 66 (.tmp 2) (.tmp 14) (by rfl) (by rfl) (by rfl) w.heap.size (v8 (n4 n)) (by rfl) (by rfl) 66 (v8 (List.replicate 4 0)) (Row.new w 66 _) hi (by simp [v8_size, n4_len]) (v8_one _) ?_)
  exact bodyPost_ret (results_cell_row Tryd.results37 _ _ w.heap.size 66 (v8 (n4 n)) (0, 0) _ rfl ((Row.new w 66 (v8 (List.replicate 4 0))).setRow _) Tryd.underlying66 rfl hi) rfl ⟨rfl, below_setRow ((Below.refl _ _).alloc (Nat.le_refl _) _) (Nat.le_refl _) _⟩

set_option maxRecDepth 20000 in
set_option maxHeartbeats 1000000 in
theorem head_any (H : List Int) (m : Int) (w : World) (hH : H.length = 20) :
    Calls Tryd.prog 58 #[.agg (v8 H), .int .u16 m] w fun e w' => e = .returned (.agg (v8 (H ++ n2 m))) ∧ Below w.heap.size w w' := by
  have hl : (H ++ n2 m).length = 22 := by rw [List.length_append, hH, n2_len]
  have hi : (Tryd.prog.info? 95).map (·.size) = some (v8 (H ++ n2 m)).size := by rw [v8_size, hl]; kernel_rfl
  go_enter Tryd.func58, Tryd.ntmps58
  go_upto_region 2 with fail
  have r0 : Row (World.alloc (World.alloc (World.alloc w (.cells (v8 H) 55)) (.cells (v8 (List.replicate 22 0)) 95)) (.cells (v8 (List.replicate 22 0)) 95)) w.heap.size 55 (v8 H) := ((Row.new _ _ _).alloc _).alloc _
  have r1 : Row (World.alloc (World.alloc (World.alloc w (.cells (v8 H) 55)) (.cells (v8 (List.replicate 22 0)) 95)) (.cells (v8 (List.replicate 22 0)) 95)) (w.heap.size + 1) 95 (v8 (List.replicate 22 0)) := (Row.newAt _ _ _ _ (by simp)).alloc _
  have r2 : Row (World.alloc (World.alloc (World.alloc w (.cells (v8 H) 55)) (.cells (v8 (List.replicate 22 0)) 95)) (.cells (v8 (List.replicate 22 0)) 95)) (w.heap.size + 2) 95 (v8 (List.replicate 22 0)) := Row.newAt _ _ _ _ (by simp)
  have b1 : Below w.heap.size w (World.alloc (World.alloc (World.alloc w (.cells (v8 H) 55)) (.cells (v8 (List.replicate 22 0)) 95)) (.cells (v8 (List.replicate 22 0)) 95)) := (((Below.refl _ _).alloc (Nat.le_refl _) _).alloc (by simp) _).alloc (by simp; omega) _
  change Code.wp _ _ _ _ ((World.alloc (World.alloc (World.alloc w (.cells (v8 H) 55)) (.cells (v8 (List.replicate 22 0)) 95)) (.cells (v8 (List.replicate 22 0)) 95)))
  generalize (World.alloc (World.alloc (World.alloc w (.cells (v8 H) 55)) (.cells (v8 (List.replicate 22 0)) 95)) (.cells (v8 (List.replicate 22 0)) 95)) = w1 at r0 r1 r2 b1 ⊢
  refine wp_region_quiet_tail 2 (by kernel_rfl) (by kernel_rfl) ?_
  simp only [List.take_succ_cons, List.take_zero, List.drop_succ_cons, List.drop_zero]
  repeat (go_big_quiet_step (fail))
  refine wpQuiet_nil ?_
  rintro _ ⟨nq, rfl⟩
  refine copy8 (w := w1.drewN nq) (.tmp 6) (.tmp 7) 28 28 (by rfl) (by rfl) 5 Tryd.underlying28 (by kernel_rfl) (some ⟨w.heap.size + 2, 0, none⟩) (some ⟨w.heap.size, 0, none⟩) 22 22 20 20 (by rfl) (by rfl) (w.heap.size + 2) (0) (List.replicate 22 0) 95 (r2.drewN nq) H (by rw [hH]; rfl) (fun _ => rfl) ((r0.drewN nq).bytes) (by simp; omega) ?_
  simp only [Act.put, List.setIfInBounds_toArray, List.set_cons_succ, List.set_cons_zero]
  rw [spl_zero, hH]
  have q1 := (r1.drewN nq).setRowOther (g := w.heap.size + 2) (by omega) (v8 (H ++ List.replicate (22 - 20) 0))
  have q2 := (r2.drewN nq).setRow (v8 (H ++ List.replicate (22 - 20) 0))
  have qb := below_setRow (g := w.heap.size + 2) (below_drewN b1 nq) (by omega) (v8 (H ++ List.replicate (22 - 20) 0))
  generalize (w1.drewN nq).setRow (w.heap.size + 2) (v8 (H ++ List.replicate (22 - 20) 0)) = w2 at q1 q2 qb ⊢
  have c0 : w2.cell? ⟨w.heap.size + 2, 20, none⟩ = some _ := q2.cell8 (by simp [hH])
  have f0 : w2.frozen? ⟨w.heap.size + 2, 20, none⟩ = false := q2.frozen
  have p2 := q2.set8 20 (m / 256 % 256)
  have c1 : (w2.setCell ⟨w.heap.size + 2, 20, none⟩ (.int .u8 (m / 256 % 256))).cell? ⟨w.heap.size + 2, 21, none⟩ = some _ := p2.cell8 (by simp [hH])
  have f1 : (w2.setCell ⟨w.heap.size + 2, 20, none⟩ (.int .u8 (m / 256 % 256))).frozen? ⟨w.heap.size + 2, 21, none⟩ = false := p2.frozen
  have s2 := p2.set8 21 (m % 256)
  have hq : ((H ++ List.replicate (22 - 20) 0).set 20 (m / 256 % 256)).set 21 (m % 256) = H ++ n2 m := by
    rw [← hH, set_end _ _ _ (by omega)]
    have : H.length + 1 = (H ++ [m / 256 % 256]).length := by simp
    rw [show (21 : Nat) = H.length + 1 by omega, this, set_end _ _ _ (by omega)]
    simp [n2, hH]
  rw [hq] at s2
  have s1 := (q1.setOther (a := ⟨w.heap.size + 2, 20, none⟩) (by show w.heap.size + 1 ≠ w.heap.size + 2; omega) (.int .u8 (m / 256 % 256))).setOther (a := ⟨w.heap.size + 2, 21, none⟩) (by show w.heap.size + 1 ≠ w.heap.size + 2; omega) (.int .u8 (m % 256))
  have sb := (qb.setCell (p := ⟨w.heap.size + 2, 20, none⟩) (by show w.heap.size ≤ w.heap.size + 2; omega) (.int .u8 (m / 256 % 256))).setCell (p := ⟨w.heap.size + 2, 21, none⟩) (by show w.heap.size ≤ w.heap.size + 2; omega) (.int .u8 (m % 256))
  go_wp2_with (first | (refine wpList_load_row (by rfl) 95 (.tmp 5) (by rfl) (w.heap.size + 2) (by rfl) 95 (v8 (H ++ n2 m)) (0, 0) _ s2 Tryd.underlying95 rfl hi ?_) | (refine store_row0 95 (.tmp 4) (.tmp 16) (by rfl) (by rfl) (by rfl) (w.heap.size + 1) (v8 (H ++ n2 m)) (by rfl) (by rfl) 95 _ s1 hi (by rw [v8_size, v8_size, hl]; simp) (v8_one _) ?_))
  exact bodyPost_ret (results_cell_row Tryd.results58 _ _ (w.heap.size + 1) 95 (v8 (H ++ n2 m)) (0, 0) _ rfl (s1.setRow _) Tryd.underlying95 rfl hi) rfl ⟨rfl, below_setRow sb (by omega) _⟩
end Go.Proofs.YtoebnkepeledmaaDoor
