/- The first steps of ots. -/
import Derived.Test.YtoebnkepeledmaaDoorSumx
import Derived.Test.YtoebnkepeledmaaDoorGc
import Derived.Deep.CutRange
namespace Go.Proofs.YtoebnkepeledmaaDoor

section
open Go.RowKit

theorem n4_wrap (q : Int) : n4 (IntKind.u32.wrap q) = n4 q := by
  rw [IntKind.wrap_u32]
  unfold n4
  have h1 : q % 4294967296 / 16777216 % 256 = q / 16777216 % 256 := by omega
  have h2 : q % 4294967296 / 65536 % 256 = q / 65536 % 256 := by omega
  have h3 : q % 4294967296 / 256 % 256 = q / 256 % 256 := by omega
  have h4 : q % 4294967296 % 256 = q % 256 := by omega
  rw [h1, h2, h3, h4]

theorem Bytes.drewN {w : World} {sp : Option Addr} {cs : List Int} (h : Bytes w sp cs) (n : Nat) : Bytes (w.drewN n) sp cs := h
theorem spl_zero (n : Nat) (x : List Int) : spl (List.replicate n 0) 0 x = x ++ List.replicate (n - x.length) 0 := by simp [spl]
theorem spl_end (x y : List Int) (n : Nat) (hn : n = y.length) : spl (x ++ List.replicate n 0) x.length y = x ++ y := by subst hn; simp [spl]
theorem spl_mid (x y : List Int) (n : Nat) : spl (x ++ List.replicate n 0) x.length y = x ++ y ++ List.replicate (n - y.length) 0 := by
  simp [spl, List.drop_append]
theorem set_end (x : List Int) (n : Nat) (v : Int) (hn : 0 < n) : (x ++ List.replicate n 0).set x.length v = x ++ [v] ++ List.replicate (n - 1) 0 := by
  obtain ⟨m, rfl⟩ : ∃ m, n = m + 1 := ⟨n - 1, by omega⟩
  simp [List.replicate_succ]

set_option maxRecDepth 20000 in
set_option maxHeartbeats 1000000 in
theorem four_any (n : Int) (w : World) :
    Calls Tryd.prog 37 #[.int .u32 n] w fun e w' => e = .returned (.agg (v8 (n4 n))) ∧ Below w.heap.size w w' := by
  have hi : (Tryd.prog.info? 66).map (·.size) = some (v8 (n4 n)).size := by rw [v8_size]; kernel_rfl
  go_enter Tryd.func37, Tryd.ntmps37
  go_wp2_with (refine store_row0 66 (.tmp 2) (.tmp 14) (by rfl) (by rfl) (by rfl) w.heap.size (v8 (n4 n)) (by rfl) (by rfl) 66 (v8 (List.replicate 4 0)) (Row.new w 66 _) hi (by simp [v8_size, n4_len]) (v8_one _) ?_)
  exact bodyPost_ret (results_cell_row Tryd.results37 _ _ w.heap.size 66 (v8 (n4 n)) (0, 0) _ rfl ((Row.new w 66 (v8 (List.replicate 4 0))).setRow _) Tryd.underlying66 rfl hi) rfl ⟨rfl, below_setRow ((Below.refl _ _).alloc (Nat.le_refl _) _) (Nat.le_refl _) _⟩

set_option maxRecDepth 20000 in
set_option maxHeartbeats 1000000 in
theorem head_any (H : List Int) (m : Int) (w : World) (hH : H.length = 20) :
    Calls Tryd.prog 58 #[.agg (v8 H), .int .u16 m] w fun e w' => e = .returned (.agg (v8 (H ++ n2 m))) ∧ Below w.heap.size w w' := by
  have hl : (H ++ n2 m).length = 22 := by rw [List.length_append, hH, n2_len]
  have hi : (Tryd.prog.info? 95).map (·.size) = some (v8 (H ++ n2 m)).size := by rw [v8_size, hl]; kernel_rfl
  go_enter Tryd.func58, Tryd.ntmps58
  go_upto_region 2 with fail
  have r0 : Row (World.alloc (World.alloc (World.alloc w (.cells (v8 H) 55)) (.cells (v8 (List.replicate 22 0)) 95)) (.cells (v8 (List.replicate 22 0)) 95)) w.heap.size 55 (v8 H) := ((Row.new _ _ _).alloc _).alloc _
  have r1 : Row (World.alloc (World.alloc (World.alloc w (.cells (v8 H) 55)) (.cells (v8 (List.replicate 22 0)) 95)) (.cells (v8 (List.replicate 22 0)) 95)) (w.heap.size + 1) 95 (v8 (List.replicate 22 0)) := (Row.newAt _ _ _ _ (by simp)).alloc _
  have r2 : Row (World.alloc (World.alloc (World.alloc w (.cells (v8 H) 55)) (.cells (v8 (List.replicate 22 0)) 95)) (.cells (v8 (List.replicate 22 0)) 95)) (w.heap.size + 2) 95 (v8 (List.replicate 22 0)) := Row.newAt _ _ _ _ (by simp)
  have b1 : Below w.heap.size w (World.alloc (World.alloc (World.alloc w (.cells (v8 H) 55)) (.cells (v8 (List.replicate 22 0)) 95)) (.cells (v8 (List.replicate 22 0)) 95)) := (((Below.refl _ _).alloc (Nat.le_refl _) _).alloc (by simp) _).alloc (by simp; omega) _
  change Code.wp _ _ _ _ ((World.alloc (World.alloc (World.alloc w (.cells (v8 H) 55)) (.cells (v8 (List.replicate 22 0)) 95)) (.cells (v8 (List.replicate 22 0)) 95)))
  generalize (World.alloc (World.alloc (World.alloc w (.cells (v8 H) 55)) (.cells (v8 (List.replicate 22 0)) 95)) (.cells (v8 (List.replicate 22 0)) 95)) = w1 at r0 r1 r2 b1 ⊢
  refine wp_region_quiet_tail 2 (by kernel_rfl) (by kernel_rfl) ?_
  simp only [List.take_succ_cons, List.take_zero, List.drop_succ_cons, List.drop_zero]
  repeat (go_big_quiet_step (fail))
  refine wpQuiet_nil ?_
  rintro _ ⟨nq, rfl⟩
  refine copy8 (w := w1.drewN nq) (.tmp 6) (.tmp 7) 28 28 (by rfl) (by rfl) 5 Tryd.underlying28 (by kernel_rfl) (some ⟨w.heap.size + 2, 0, none⟩) (some ⟨w.heap.size, 0, none⟩) 22 22 20 20 (by rfl) (by rfl) (w.heap.size + 2) (0) (List.replicate 22 0) 95 (r2.drewN nq) H (by rw [hH]; rfl) (fun _ => rfl) ((r0.drewN nq).bytes) (by simp; omega) ?_
  simp only [Act.put, List.setIfInBounds_toArray, List.set_cons_succ, List.set_cons_zero]
  rw [spl_zero, hH]
  have q1 := (r1.drewN nq).setRowOther (g := w.heap.size + 2) (by omega) (v8 (H ++ List.replicate (22 - 20) 0))
  have q2 := (r2.drewN nq).setRow (v8 (H ++ List.replicate (22 - 20) 0))
  have qb := below_setRow (g := w.heap.size + 2) (below_drewN b1 nq) (by omega) (v8 (H ++ List.replicate (22 - 20) 0))
  generalize (w1.drewN nq).setRow (w.heap.size + 2) (v8 (H ++ List.replicate (22 - 20) 0)) = w2 at q1 q2 qb ⊢
  have c0 : w2.cell? ⟨w.heap.size + 2, 20, none⟩ = some _ := q2.cell8 (by simp [hH])
  have f0 : w2.frozen? ⟨w.heap.size + 2, 20, none⟩ = false := q2.frozen
  have p2 := q2.set8 20 (m / 256 % 256)
  have c1 : (w2.setCell ⟨w.heap.size + 2, 20, none⟩ (.int .u8 (m / 256 % 256))).cell? ⟨w.heap.size + 2, 21, none⟩ = some _ := p2.cell8 (by simp [hH])
  have f1 : (w2.setCell ⟨w.heap.size + 2, 20, none⟩ (.int .u8 (m / 256 % 256))).frozen? ⟨w.heap.size + 2, 21, none⟩ = false := p2.frozen
  have s2 := p2.set8 21 (m % 256)
  have hq : ((H ++ List.replicate (22 - 20) 0).set 20 (m / 256 % 256)).set 21 (m % 256) = H ++ n2 m := by
    rw [← hH, set_end _ _ _ (by omega)]
    have : H.length + 1 = (H ++ [m / 256 % 256]).length := by simp
    rw [show (21 : Nat) = H.length + 1 by omega, this, set_end _ _ _ (by omega)]
    simp [n2, hH]
  rw [hq] at s2
  have s1 := (q1.setOther (a := ⟨w.heap.size + 2, 20, none⟩) (by show w.heap.size + 1 ≠ w.heap.size + 2; omega) (.int .u8 (m / 256 % 256))).setOther (a := ⟨w.heap.size + 2, 21, none⟩) (by show w.heap.size + 1 ≠ w.heap.size + 2; omega) (.int .u8 (m % 256))
  have sb := (qb.setCell (p := ⟨w.heap.size + 2, 20, none⟩) (by show w.heap.size ≤ w.heap.size + 2; omega) (.int .u8 (m / 256 % 256))).setCell (p := ⟨w.heap.size + 2, 21, none⟩) (by show w.heap.size ≤ w.heap.size + 2; omega) (.int .u8 (m % 256))
  go_wp2_with (first | (refine wpList_load_row (by rfl) 95 (.tmp 5) (by rfl) (w.heap.size + 2) (by rfl) 95 (v8 (H ++ n2 m)) (0, 0) _ s2 Tryd.underlying95 rfl hi ?_) | (refine store_row0 95 (.tmp 4) (.tmp 16) (by rfl) (by rfl) (by rfl) (w.heap.size + 1) (v8 (H ++ n2 m)) (by rfl) (by rfl) 95 _ s1 hi (by rw [v8_size, v8_size, hl]; simp) (v8_one _) ?_))
  exact bodyPost_ret (results_cell_row Tryd.results58 _ _ (w.heap.size + 1) 95 (v8 (H ++ n2 m)) (0, 0) _ rfl (s1.setRow _) Tryd.underlying95 rfl hi) rfl ⟨rfl, below_setRow sb (by omega) _⟩
end

section
open Go.RowKit

/-- S is the hash, and no more is told of it than that Sum answers it, of 32 bytes. -/
def Hash (S : List Int → List Int) : Prop := S = shaS
theorem Hash.len {S : List Int → List Int} (h : Hash S) (l : List Int) : (S l).length = 32 := by subst h; exact idN_length _ 8 (by omega)
theorem Hash.sum {S : List Int → List Int} (h : Hash S) (bs : List Int) (sp : Option Addr) (len cap : Nat) (w : World) (hlen : bs.length = len) (hcap : len ≤ cap) (hmax : len ≤ 72057594037927936) (hl : Laid w) (hby : Bytes w sp bs) :
    Calls Tryd.prog 59 #[.slice sp len cap] w fun e w' => e = .returned (.agg (v8 (S bs))) ∧ Below w.heap.size w w' := by subst h; exact sum_any bs sp len cap w hlen hcap hmax hl hby

set_option maxRecDepth 20000 in
set_option maxHeartbeats 300000 in
theorem leafOf_any (nm : List Int) (q : Int) (w : World) (hn : nm.length = 16) :
    Calls Tryd.prog 29 #[.agg (v8 nm), .int .i64 q] w fun e w' => e = .returned (.agg (v8 (nm ++ n4 q))) ∧ Below w.heap.size w w' := by
  have hl : (nm ++ n4 q).length = 20 := by rw [List.length_append, hn, n4_len]
  have hi : (Tryd.prog.info? 55).map (·.size) = some (v8 (nm ++ n4 q)).size := by rw [v8_size, hl]; kernel_rfl
  have h4 : (Tryd.prog.info? 66).map (·.size) = some (v8 (n4 q)).size := by rw [v8_size]; kernel_rfl
  have hfour : ∀ wx, Calls Tryd.prog 37 #[.int .u32 (q % 4294967296)] wx fun e w' => e = .returned (.agg (v8 (n4 q))) ∧ Below wx.heap.size wx w' := fun wx => by
    have := four_any (q % 4294967296) wx
    rwa [← IntKind.wrap_u32, n4_wrap] at this
  go_enter Tryd.func29, Tryd.ntmps29
  go_upto_region 2 with fail
  have r0 : Row (World.alloc (World.alloc (World.alloc w (.cells (v8 nm) 22)) (.cells (v8 (List.replicate 20 0)) 55)) (.cells (v8 (List.replicate 20 0)) 55)) w.heap.size 22 (v8 nm) := ((Row.new _ _ _).alloc _).alloc _
  have r1 : Row (World.alloc (World.alloc (World.alloc w (.cells (v8 nm) 22)) (.cells (v8 (List.replicate 20 0)) 55)) (.cells (v8 (List.replicate 20 0)) 55)) (w.heap.size + 1) 55 (v8 (List.replicate 20 0)) := (Row.newAt _ _ _ _ (by simp)).alloc _
  have r2 : Row (World.alloc (World.alloc (World.alloc w (.cells (v8 nm) 22)) (.cells (v8 (List.replicate 20 0)) 55)) (.cells (v8 (List.replicate 20 0)) 55)) (w.heap.size + 2) 55 (v8 (List.replicate 20 0)) := Row.newAt _ _ _ _ (by simp)
  have b1 : Below w.heap.size w (World.alloc (World.alloc (World.alloc w (.cells (v8 nm) 22)) (.cells (v8 (List.replicate 20 0)) 55)) (.cells (v8 (List.replicate 20 0)) 55)) := (((Below.refl _ _).alloc (Nat.le_refl _) _).alloc (by simp) _).alloc (by simp; omega) _
  change Code.wp _ _ _ _ ((World.alloc (World.alloc (World.alloc w (.cells (v8 nm) 22)) (.cells (v8 (List.replicate 20 0)) 55)) (.cells (v8 (List.replicate 20 0)) 55)))
  generalize (World.alloc (World.alloc (World.alloc w (.cells (v8 nm) 22)) (.cells (v8 (List.replicate 20 0)) 55)) (.cells (v8 (List.replicate 20 0)) 55)) = w1 at r0 r1 r2 b1 ⊢
  refine wp_region_quiet_tail 2 (by kernel_rfl) (by kernel_rfl) ?_
  simp only [List.take_succ_cons, List.take_zero, List.drop_succ_cons, List.drop_zero]
  repeat (go_big_quiet_step (fail))
  refine wpQuiet_nil ?_
  rintro _ ⟨nq, rfl⟩
  refine copy8 (w := w1.drewN nq) (.tmp 7) (.tmp 8) 28 28 (by rfl) (by rfl) 5 Tryd.underlying28 (by kernel_rfl) (some ⟨w.heap.size + 2, 0, none⟩) (some ⟨w.heap.size, 0, none⟩) 20 20 16 16 (by rfl) (by rfl) (w.heap.size + 2) (0) (List.replicate 20 0) 55 (r2.drewN nq) nm (by rw [hn]; rfl) (fun _ => rfl) ((r0.drewN nq).bytes) (by simp; omega) ?_
  simp only [Act.put, List.setIfInBounds_toArray, List.set_cons_succ, List.set_cons_zero]
  rw [spl_zero, hn]
  have q1 := (r1.drewN nq).setRowOther (g := w.heap.size + 2) (by omega) (v8 (nm ++ List.replicate (20 - 16) 0))
  have q2 := (r2.drewN nq).setRow (v8 (nm ++ List.replicate (20 - 16) 0))
  have qb := below_setRow (g := w.heap.size + 2) (below_drewN b1 nq) (by omega) (v8 (nm ++ List.replicate (20 - 16) 0))
  generalize (w1.drewN nq).setRow (w.heap.size + 2) (v8 (nm ++ List.replicate (20 - 16) 0)) = w2 at q1 q2 qb ⊢
  have hq2 := q2.lt
  go_upto_region 4 with (first | (go_at_call 37; (with_reducible refine Calls.mono (hfour _) ?_); rintro e w3 ⟨rfl, hb3⟩) | (refine store_row0 66 (.tmp 6) (.tmp 12) (by rfl) (by rfl) (by rfl) w3.heap.size (v8 (n4 q)) (by rfl) (by rfl) 66 (v8 (List.replicate 4 0)) (Row.new w3 66 _) h4 (by simp [v8_size, n4_len]) (v8_one _) ?_))
  have hs3 := hb3.size
  have p1 := ((q1.below hb3 (by omega)).alloc (.cells (v8 (List.replicate 4 0)) 66)).setRowOther (g := w3.heap.size) (by omega) (v8 (n4 q))
  have p2 := ((q2.below hb3 (by omega)).alloc (.cells (v8 (List.replicate 4 0)) 66)).setRowOther (g := w3.heap.size) (by omega) (v8 (n4 q))
  have p3 := (Row.new w3 66 (v8 (List.replicate 4 0))).setRow (v8 (n4 q))
  have pb : Below w.heap.size w ((w3.alloc (.cells (v8 (List.replicate 4 0)) 66)).setRow w3.heap.size (v8 (n4 q))) := below_setRow ((qb.trans (hb3.mono qb.size)).alloc (by have := qb.size; omega) _) (by have := qb.size; omega) _
  change Code.wp _ _ _ _ ((w3.alloc (.cells (v8 (List.replicate 4 0)) 66)).setRow w3.heap.size (v8 (n4 q)))
  have hg : w.heap.size + 2 < w3.heap.size := by omega
  generalize (w3.alloc (.cells (v8 (List.replicate 4 0)) 66)).setRow w3.heap.size (v8 (n4 q)) = w4 at p1 p2 p3 pb ⊢
  refine wp_region_quiet_tail 2 (by kernel_rfl) (by kernel_rfl) ?_
  simp only [List.take_succ_cons, List.take_zero, List.drop_succ_cons, List.drop_zero]
  repeat (go_big_quiet_step (fail))
  refine wpQuiet_nil ?_
  rintro _ ⟨nq, rfl⟩
  refine copy8 (w := w4.drewN nq) (.tmp 13) (.tmp 14) 28 28 (by rfl) (by rfl) 5 Tryd.underlying28 (by kernel_rfl) (some ⟨w.heap.size + 2, 16, none⟩) (some ⟨w3.heap.size, 0, none⟩) 4 4 4 4 (by rfl) (by rfl) (w.heap.size + 2) (16) (nm ++ List.replicate (20 - 16) 0) 55 (p2.drewN nq) (n4 q) rfl (fun _ => rfl) ((p3.drewN nq).bytes) (by simp [hn, n4_len]) ?_
  simp only [Act.put, List.setIfInBounds_toArray, List.set_cons_succ, List.set_cons_zero]
  rw [show spl (nm ++ List.replicate (20 - 16) 0) 16 (n4 q) = nm ++ n4 q by rw [← hn]; exact spl_end _ _ _ (by rw [hn]; rfl)]
  have s1 := (p1.drewN nq).setRowOther (g := w.heap.size + 2) (by omega) (v8 (nm ++ n4 q))
  have s2 := (p2.drewN nq).setRow (v8 (nm ++ n4 q))
  have sb := below_setRow (g := w.heap.size + 2) (below_drewN pb nq) (by omega) (v8 (nm ++ n4 q))
  generalize (w4.drewN nq).setRow (w.heap.size + 2) (v8 (nm ++ n4 q)) = w5 at s1 s2 sb ⊢
  go_wp2_with (first | (refine wpList_load_row (by rfl) 55 (.tmp 5) (by rfl) (w.heap.size + 2) (by rfl) 55 (v8 (nm ++ n4 q)) (0, 0) _ s2 Tryd.underlying55 rfl hi ?_) | (refine store_row0 55 (.tmp 4) (.tmp 16) (by rfl) (by rfl) (by rfl) (w.heap.size + 1) (v8 (nm ++ n4 q)) (by rfl) (by rfl) 55 _ s1 hi (by rw [v8_size, v8_size, hl]; simp) (v8_one _) ?_))
  exact bodyPost_ret (results_cell_row Tryd.results29 _ _ (w.heap.size + 1) 55 (v8 (nm ++ n4 q)) (0, 0) _ rfl (s1.setRow _) Tryd.underlying55 rfl hi) rfl ⟨rfl, below_setRow sb (by omega) _⟩

set_option maxRecDepth 20000 in
set_option maxHeartbeats 300000 in
theorem step_any (S : List Int → List Int) (hS : Hash S) (H t : List Int) (i j : Int) (w : World) (hL : Laid w) (hH : H.length = 20) (ht : t.length = 32) (hi0 : 0 ≤ i) (hi1 : i < 65536) (hj0 : 0 ≤ j) (hj1 : j < 256) :
    Calls Tryd.prog 57 #[.agg (v8 H), .int .i64 i, .int .i64 j, .agg (v8 t)] w fun e w' => e = .returned (.agg (v8 (stepL S H i j t))) ∧ Below w.heap.size w w' := by
  unfold stepL
  have hHl : (H ++ n2 i).length = 22 := by rw [List.length_append, hH, n2_len]
  have h95 : (Tryd.prog.info? 95).map (·.size) = some (v8 (H ++ n2 i)).size := by rw [v8_size, hHl]; kernel_rfl
  have h55 : (Tryd.prog.info? 55).map (·.size) = some (v8 H).size := by rw [v8_size, hH]; kernel_rfl
  have hid : ∀ l, (Tryd.prog.info? 24).map (·.size) = some (v8 (S l)).size := fun l => by rw [v8_size, hS.len]; kernel_rfl
  have wi : IntKind.u16.wrap i = i := by rw [IntKind.wrap_u16]; omega
  have wj : j % 256 = j := by omega
  have hhead : ∀ wx, Calls Tryd.prog 58 #[.agg (v8 H), .int .u16 i] wx fun e w' => e = .returned (.agg (v8 (H ++ n2 i))) ∧ Below wx.heap.size wx w' := fun wx => head_any H i wx hH
  go_enter Tryd.func57, Tryd.ntmps57
  go_upto_region 2 with fail
  have r0 : Row (World.alloc (World.alloc (World.alloc (World.alloc w (.cells (v8 H) 55)) (.cells (v8 t) 24)) (.cells (v8 (List.replicate 32 0)) 24)) (.cells (v8 (List.replicate 55 0)) 110)) w.heap.size 55 (v8 H) := (((Row.new _ _ _).alloc _).alloc _).alloc _
  have r1 : Row (World.alloc (World.alloc (World.alloc (World.alloc w (.cells (v8 H) 55)) (.cells (v8 t) 24)) (.cells (v8 (List.replicate 32 0)) 24)) (.cells (v8 (List.replicate 55 0)) 110)) (w.heap.size + 1) 24 (v8 t) := ((Row.newAt _ _ _ _ (by simp)).alloc _).alloc _
  have r2 : Row (World.alloc (World.alloc (World.alloc (World.alloc w (.cells (v8 H) 55)) (.cells (v8 t) 24)) (.cells (v8 (List.replicate 32 0)) 24)) (.cells (v8 (List.replicate 55 0)) 110)) (w.heap.size + 2) 24 (v8 (List.replicate 32 0)) := (Row.newAt _ _ _ _ (by simp)).alloc _
  have r3 : Row (World.alloc (World.alloc (World.alloc (World.alloc w (.cells (v8 H) 55)) (.cells (v8 t) 24)) (.cells (v8 (List.replicate 32 0)) 24)) (.cells (v8 (List.replicate 55 0)) 110)) (w.heap.size + 3) 110 (v8 (List.replicate 55 0)) := Row.newAt _ _ _ _ (by simp)
  have b1 : Below w.heap.size w (World.alloc (World.alloc (World.alloc (World.alloc w (.cells (v8 H) 55)) (.cells (v8 t) 24)) (.cells (v8 (List.replicate 32 0)) 24)) (.cells (v8 (List.replicate 55 0)) 110)) := ((((Below.refl _ _).alloc (Nat.le_refl _) _).alloc (by simp) _).alloc (by simp; omega) _).alloc (by simp; omega) _
  change Code.wp _ _ _ _ ((World.alloc (World.alloc (World.alloc (World.alloc w (.cells (v8 H) 55)) (.cells (v8 t) 24)) (.cells (v8 (List.replicate 32 0)) 24)) (.cells (v8 (List.replicate 55 0)) 110)))
  generalize (World.alloc (World.alloc (World.alloc (World.alloc w (.cells (v8 H) 55)) (.cells (v8 t) 24)) (.cells (v8 (List.replicate 32 0)) 24)) (.cells (v8 (List.replicate 55 0)) 110)) = w1 at r0 r1 r2 r3 b1 ⊢
  have hr3 := r3.lt
  go_upto_region 3 with (first | (refine wpList_load_row (by rfl) 55 (.tmp 4) (by rfl) w.heap.size (by rfl) 55 (v8 H) (0, 0) _ r0 Tryd.underlying55 rfl h55 ?_) | (go_at_call 58; (with_reducible refine Calls.mono (hhead _) ?_); rintro e w3 ⟨rfl, hb3⟩) | (refine store_row0 95 (.tmp 10) (.tmp 14) (by rfl) (by rfl) (by rfl) w3.heap.size (v8 (H ++ n2 i)) (by rfl) (by rfl) 95 (v8 (List.replicate 22 0)) (Row.new w3 95 _) h95 (by rw [v8_size, v8_size, hHl]; simp) (v8_one _) ?_))
  have hs3 := hb3.size
  have p1 := ((r1.below hb3 (by omega)).alloc (.cells (v8 (List.replicate 22 0)) 95)).setRowOther (g := w3.heap.size) (by omega) (v8 (H ++ n2 i))
  have p2 := ((r2.below hb3 (by omega)).alloc (.cells (v8 (List.replicate 22 0)) 95)).setRowOther (g := w3.heap.size) (by omega) (v8 (H ++ n2 i))
  have p3 := ((r3.below hb3 (by omega)).alloc (.cells (v8 (List.replicate 22 0)) 95)).setRowOther (g := w3.heap.size) (by omega) (v8 (H ++ n2 i))
  have p4 := (Row.new w3 95 (v8 (List.replicate 22 0))).setRow (v8 (H ++ n2 i))
  have pb : Below w.heap.size w ((w3.alloc (.cells (v8 (List.replicate 22 0)) 95)).setRow w3.heap.size (v8 (H ++ n2 i))) := below_setRow ((b1.trans (hb3.mono b1.size)).alloc (by omega) _) (by omega) _
  change Code.wp _ _ _ _ ((w3.alloc (.cells (v8 (List.replicate 22 0)) 95)).setRow w3.heap.size (v8 (H ++ n2 i)))
  have hg : w.heap.size + 3 < w3.heap.size := by omega
  generalize (w3.alloc (.cells (v8 (List.replicate 22 0)) 95)).setRow w3.heap.size (v8 (H ++ n2 i)) = w4 at p1 p2 p3 p4 pb ⊢
  refine wp_region_quiet_tail 2 (by kernel_rfl) (by kernel_rfl) ?_
  simp only [List.take_succ_cons, List.take_zero, List.drop_succ_cons, List.drop_zero]
  repeat (go_big_quiet_step (fail))
  refine wpQuiet_nil ?_
  rintro _ ⟨nq, rfl⟩
  refine copy8 (w := w4.drewN nq) (.tmp 15) (.tmp 16) 28 28 (by rfl) (by rfl) 5 Tryd.underlying28 (by kernel_rfl) (some ⟨w.heap.size + 3, 0, none⟩) (some ⟨w3.heap.size, 0, none⟩) 55 55 22 22 (by rfl) (by rfl) (w.heap.size + 3) (0) (List.replicate 55 0) 110 (p3.drewN nq) (H ++ n2 i) (by rw [hHl]; rfl) (fun _ => rfl) ((p4.drewN nq).bytes) (by rw [hHl]; simp) ?_
  simp only [Act.put, List.setIfInBounds_toArray, List.set_cons_succ, List.set_cons_zero]
  rw [spl_zero, hHl]
  have q1 := (p1.drewN nq).setRowOther (g := w.heap.size + 3) (by omega) (v8 (H ++ n2 i ++ List.replicate (55 - 22) 0))
  have q2 := (p2.drewN nq).setRowOther (g := w.heap.size + 3) (by omega) (v8 (H ++ n2 i ++ List.replicate (55 - 22) 0))
  have q3 := (p3.drewN nq).setRow (v8 (H ++ n2 i ++ List.replicate (55 - 22) 0))
  have qb := below_setRow (g := w.heap.size + 3) (below_drewN pb nq) (by omega) (v8 (H ++ n2 i ++ List.replicate (55 - 22) 0))
  generalize (w4.drewN nq).setRow (w.heap.size + 3) (v8 (H ++ n2 i ++ List.replicate (55 - 22) 0)) = w5 at q1 q2 q3 qb ⊢
  have c0 : w5.cell? ⟨w.heap.size + 3, 22, none⟩ = some _ := q3.cell8 (by rw [List.length_append, hHl]; simp)
  have f0 : w5.frozen? ⟨w.heap.size + 3, 22, none⟩ = false := q3.frozen
  have s3 := q3.set8 22 j
  have e3 : List.set (H ++ n2 i ++ List.replicate (55 - 22) 0) 22 j = H ++ n2 i ++ [j] ++ List.replicate 32 0 := by
    have := set_end (H ++ n2 i) (55 - 22) j (by omega)
    rwa [hHl] at this
  rw [e3] at s3
  have s1 := q1.setOther (a := ⟨w.heap.size + 3, 22, none⟩) (by show w.heap.size + 1 ≠ w.heap.size + 3; omega) (.int .u8 j)
  have s2 := q2.setOther (a := ⟨w.heap.size + 3, 22, none⟩) (by show w.heap.size + 2 ≠ w.heap.size + 3; omega) (.int .u8 j)
  have sb := qb.setCell (p := ⟨w.heap.size + 3, 22, none⟩) (by show w.heap.size ≤ w.heap.size + 3; omega) (.int .u8 j)
  go_upto_region 5 with fail
  generalize w5.setCell ⟨w.heap.size + 3, 22, none⟩ (.int .u8 j) = w6 at s1 s2 s3 sb ⊢
  have hl3 : (H ++ n2 i ++ [j]).length = 23 := by rw [List.length_append, hHl]; rfl
  refine wp_region_quiet_tail 2 (by kernel_rfl) (by kernel_rfl) ?_
  simp only [List.take_succ_cons, List.take_zero, List.drop_succ_cons, List.drop_zero]
  repeat (go_big_quiet_step (fail))
  refine wpQuiet_nil ?_
  rintro _ ⟨nq, rfl⟩
  refine copy8 (w := w6.drewN nq) (.tmp 21) (.tmp 22) 28 28 (by rfl) (by rfl) 5 Tryd.underlying28 (by kernel_rfl) (some ⟨w.heap.size + 3, 23, none⟩) (some ⟨w.heap.size + 1, 0, none⟩) 32 32 32 32 (by rfl) (by rfl) (w.heap.size + 3) (23) (H ++ n2 i ++ [j] ++ List.replicate 32 0) 110 (s3.drewN nq) t (by rw [ht]; rfl) (fun _ => rfl) ((s1.drewN nq).bytes) (by rw [List.length_append, hl3, ht]; simp) ?_
  simp only [Act.put, List.setIfInBounds_toArray, List.set_cons_succ, List.set_cons_zero]
  rw [show spl (H ++ n2 i ++ [j] ++ List.replicate 32 0) 23 t = H ++ n2 i ++ [j] ++ t by rw [← hl3]; exact spl_end _ _ _ ht.symm]
  have u2 := (s2.drewN nq).setRowOther (g := w.heap.size + 3) (by omega) (v8 (H ++ n2 i ++ [j] ++ t))
  have u3 := (s3.drewN nq).setRow (v8 (H ++ n2 i ++ [j] ++ t))
  have ub := below_setRow (g := w.heap.size + 3) (below_drewN sb nq) (by omega) (v8 (H ++ n2 i ++ [j] ++ t))
  generalize (w6.drewN nq).setRow (w.heap.size + 3) (v8 (H ++ n2 i ++ [j] ++ t)) = w7 at u2 u3 ub ⊢
  have hl4 : (H ++ n2 i ++ [j] ++ t).length = 55 := by rw [List.length_append, hl3, ht]
  generalize hX : H ++ n2 i ++ [j] ++ t = X at *
  have hsum := hS.sum X (some ⟨w.heap.size + 3, 0, none⟩) 55 55 w7 hl4 (by omega) (by omega) (hL.below ub) u3.bytes
  have hu3 := u3.lt
  go_wp2_with (first | (go_at_call 59; (with_reducible refine Calls.mono hsum ?_); rintro e w8 ⟨rfl, hb8⟩) | (refine store_row0 24 (.tmp 8) (.tmp 25) (by rfl) (by rfl) (by rfl) (w.heap.size + 2) (v8 (S X)) (by rfl) (by rfl) 24 _ (u2.below hb8 (by omega)) (hid X) (by rw [v8_size, v8_size, hS.len]; simp) (v8_one _) ?_))
  exact bodyPost_ret (results_cell_row Tryd.results57 _ _ (w.heap.size + 2) 24 (v8 (S X)) (0, 0) _ rfl ((u2.below hb8 (by omega)).setRow _) Tryd.underlying24 rfl (hid X)) rfl ⟨by rw [hX], below_setRow (ub.trans (hb8.mono ub.size)) (by omega) _⟩
end

section
open Go Go.RowKit

theorem run_storeVar_row {P : Program} (w : World) (g off : Nat) (t ty : TypeId) (cur : Array Value) (cells : Array Value) (hg : Row w g t cur) (hfit : off + cells.size ≤ cur.size) (hi : (P.info? ty).map (·.size) = some cells.size) (h1 : cells.all (·.oneCell') = true) :
    (storeVar ty ⟨g, off, none⟩ (.agg cells)).run P w = .ok () (w.setRow g (cur.toList.take off ++ cells.toList ++ cur.toList.drop (off + cells.size)).toArray) := by
  have := run_storeCells_at (P := P) g off t cells.toList 0 cur w hg (by simpa using hfit) (fun v hv => (Array.all_eq_true_iff_forall_mem.1 h1) v (by simpa using hv))
  cases hq : P.info? ty with
  | none => simp [hq] at hi
  | some i =>
    have hs : cells.size = i.size := by simp [hq] at hi; omega
    simp only [Nat.add_zero, Array.length_toList] at this
    simp [storeVar, sizeOf, typeInfo, hq, Value.cells, hs, this]

/-- An array of bytes stored into the middle of a row. -/
theorem store_mid8 {P : Program} {ops : Array Oper} {rest : List Oper} {o : Oper} {a : Act} {w : World} {Q : Exit → Act → World → Prop} (ty : TypeId) (x y : Operand) (ho : o.op = .store ty x y) (hgd : o.guard = none) (hd : o.dst = none)
    (g off : Nat) (cs : List Int) (hx : a.eval x = .pointer (some ⟨g, off, none⟩)) (hy : a.eval y = .agg (v8 cs))
    (t : TypeId) (l : List Int) (hg : Row w g t (v8 l)) (hi : (P.info? ty).map (·.size) = some (v8 cs).size) (hfit : off + cs.length ≤ l.length)
    (h : wpList P ops Q rest a (w.setRow g (v8 (spl l off cs)))) : wpList P ops Q (o :: rest) a w := by
  refine wpList_plain hgd fun K hK => ?_
  have hr := run_storeVar_row (P := P) w g off t ty (v8 l) (v8 cs) hg (by rw [v8_size, v8_size]; exact hfit) hi (v8_one _)
  have e : ((v8 l).toList.take off ++ (v8 cs).toList ++ (v8 l).toList.drop (off + (v8 cs).size)).toArray = v8 (spl l off cs) := by
    simp [v8, spl, List.map_take, List.map_drop]
  rw [e] at hr
  unfold Oper.wp execOp
  simp only [ho, hx, hy, Instr.storeAt, Instr.sureAddr, Sem.run_bind, Sem.run_pure, Result.andThen_ok, hr]
  rw [← show a.put o.dst undef = a by rw [hd]; rfl] at h
  exact hK _ _ h

/-- 'a[i]' of an array of arrays of bytes, by value. -/
theorem run_index_sub {P : Program} {w : World} (t e : TypeId) (n m : Nat) (l cs : List Int) (k : IntKind) (i : Nat) (d : TypeDesc) (h : P.underlying t = some (.array n e)) (he : P.underlying e = some d) (hd : (match d with | .struct _ | .array _ _ => true | _ => false) = true) (hs : (P.info? e).map (·.size) = some m)
    (hi : i < n) (hcs : cs = (l.drop (m * i)).take m) : (Instr.index t (.agg (v8 l)) (.int k (i : Int))).run P w = .ok (.agg (v8 cs)) w := by
  cases hq : P.info? e with
  | none => simp [hq] at hs
  | some inf =>
    have h1 : inf.size = m := by simpa [hq] using hs
    have hc : (0 : Int) ≤ (i : Int) ∧ (i : Int) < (n : Int) := by omega
    have hx : (v8 l).extract (i * m) (i * m + m) = v8 cs := by
      subst hcs
      simp [v8, Nat.mul_comm, List.map_drop, List.map_take, List.extract_eq_take_drop]
    cases d <;> simp only [Bool.false_eq_true] at hd
    all_goals simp [Instr.index, run_underlying h, asIntOf, hc, go_sem, sizeOf, typeInfo, hq, h1, part, isAgg, run_underlying he, hx]
    all_goals intro hx2; omega

def v64 (l : List Int) : Array Value := (l.map (Value.int .i64)).toArray
theorem v64_size (l : List Int) : (v64 l).size = l.length := by simp [v64]
theorem v64_at {l : List Int} {j : Nat} (h : j < l.length) : (v64 l)[j]? = some (.int .i64 (gi l j)) := by simp [v64, gi, h]
theorem v64_set (l : List Int) (j : Nat) (x : Int) : (v64 l).setIfInBounds j (.int .i64 x) = v64 (l.set j x) := by simp [v64, List.map_set]
theorem v64_one (l : List Int) : (v64 l).all (·.oneCell') = true := by simp [v64]; intro a _; rfl
theorem Row.cell64 {w : World} {b j : Nat} {t : TypeId} {l : List Int} (h : Row w b t (v64 l)) (hj : j < l.length) : w.cell? ⟨b, j, none⟩ = some (.int .i64 (gi l j)) := h.cell.trans (v64_at hj)
theorem Row.set64 {w : World} {b : Nat} {t : TypeId} {l : List Int} (h : Row w b t (v64 l)) (j : Nat) (x : Int) : Row (w.setCell ⟨b, j, none⟩ (.int .i64 x)) b t (v64 (l.set j x)) := by
  have := heap_setCell_same w b j (v64 l) t (.int .i64 x) h
  rw [v64_set] at this; exact this

theorem and3 (x : Int) (h0 : 0 ≤ x) (h1 : x < 256) : bits .and .i64 x 3 = x % 4 := by
  have h : ∀ m : Fin 256, bits .and .i64 (m.val : Int) 3 = (m.val : Int) % 4 := by decide +kernel
  have := h ⟨x.toNat, by omega⟩
  simpa [Int.toNat_of_nonneg h0] using this
end

section
open Go.RowKit

theorem info5 : (Tryd.prog.info? 5).map (fun i => (i.zero, i.size, i.bytes)) = some (some (.int .u8 0), 1, 1) := by kernel_rfl
theorem shaS_len (bs : List Int) : (shaS bs).length = 32 := idN_length _ 8 (by omega)
theorem made_v8 (n : Nat) : madeCells #[.int .u8 0] n = v8 (List.replicate n 0) := by
  unfold madeCells v8
  apply Array.ext
  · simp
  · intro i h1 h2
    simp [Nat.mod_one]
theorem make8 (n : Nat) (hn : n ≤ 140737488355328) (w : World) : (Instr.makeSlice 28 (.int .i64 (n : Int)) (.int .i64 (n : Int))).run Tryd.prog w = .ok (.slice (some ⟨w.heap.size, 0, none⟩) n n) (w.alloc (.cells (v8 (List.replicate n 0)) 5)) := by
  obtain ⟨i, hi, hz, h1, h2⟩ : ∃ i, Tryd.prog.info? 5 = some i ∧ i.zero = some (.int .u8 0) ∧ i.size = 1 ∧ i.bytes = 1 := by
    have hinfo := info5
    cases hq : Tryd.prog.info? 5 with
    | none => simp [hq] at hinfo
    | some i => simp [hq] at hinfo; exact ⟨i, rfl, hinfo.1, hinfo.2.1, hinfo.2.2⟩
  have := run_make w 28 5 i (.int .u8 0) Tryd.underlying28 hi hz .i64 .i64 (n : Int) (n : Int) (by omega) (by omega) (by rw [h2]; omega) (by omega)
  rw [this, h1]
  simp only [Int.toNat_natCast, Nat.mul_one]
  rw [← made_v8]; rfl
theorem spl_both (x y : List Int) : spl (spl (List.replicate (x.length + y.length) 0) 0 x) x.length y = x ++ y := by
  simp [spl]

set_option maxRecDepth 20000 in
set_option maxHeartbeats 1000000 in
theorem pair_any (xa xb : List Int) (sa sb : Option Addr) (la ca lb cb : Nat) (w : World) (hla : xa.length = la) (hlb : xb.length = lb) (hmax : la + lb ≤ 35184372088832)
    (hl : Laid w) (ha : Bytes w sa xa) (hb : Bytes w sb xb) :
    Calls Tryd.prog 63 #[.slice sa la ca, .slice sb lb cb] w fun e w' => e = .returned (.agg (v8 (shaS (xa ++ xb)))) ∧ Below w.heap.size w w' := by
  have hmk := make8 (la + lb) (by omega)
  rw [show ((la + lb : Nat) : Int) = (la : Int) + (lb : Int) by omega] at hmk
  have i25 : (Tryd.prog.info? 24).map (·.size) = some (v8 (shaS (xa ++ xb))).size := by rw [v8_size, shaS_len]; kernel_rfl
  have hold : (v8 (List.replicate 32 0)).size = (v8 (shaS (xa ++ xb))).size := by rw [v8_size, v8_size, shaS_len]; simp
  go_enter Tryd.func63, Tryd.ntmps63
  go_upto_region 2 with fail
  have r0 : Row ((w.alloc (.cells (v8 (List.replicate 32 0)) 24)).alloc (.cells (v8 (List.replicate (la + lb) 0)) 5)) w.heap.size 24 (v8 (List.replicate 32 0)) := (Row.new _ _ _).alloc _
  have r1 : Row ((w.alloc (.cells (v8 (List.replicate 32 0)) 24)).alloc (.cells (v8 (List.replicate (la + lb) 0)) 5)) (w.heap.size + 1) 5 (v8 (List.replicate (la + lb) 0)) := Row.newAt _ _ _ _ (by simp)
  have b0 : Below w.heap.size w ((w.alloc (.cells (v8 (List.replicate 32 0)) 24)).alloc (.cells (v8 (List.replicate (la + lb) 0)) 5)) := ((Below.refl _ _).alloc (Nat.le_refl _) _).alloc (by simp) _
  change Code.wp _ _ _ _ ((w.alloc (.cells (v8 (List.replicate 32 0)) 24)).alloc (.cells (v8 (List.replicate (la + lb) 0)) 5))
  generalize (w.alloc (.cells (v8 (List.replicate 32 0)) 24)).alloc (.cells (v8 (List.replicate (la + lb) 0)) 5) = w2 at r0 r1 b0 ⊢
  have ha2 := ha.below b0
  clear hmk
  go_upto_region 3 with (refine copy8 (.tmp 12) (.tmp 13) 28 28 (by rfl) (by rfl) 5 Tryd.underlying28 (by kernel_rfl) (some ⟨w.heap.size + 1, 0, none⟩) sa (la + lb) (la + lb) la ca (by rfl) (by rfl) (w.heap.size + 1) 0 (List.replicate (la + lb) 0) 5 r1 xa (by omega) (fun _ => rfl) ha2 (by simp; omega) ?_)
  have q0 := r0.setRowOther (g := w.heap.size + 1) (by omega) (v8 (spl (List.replicate (la + lb) 0) 0 xa))
  have q1 := r1.setRow (v8 (spl (List.replicate (la + lb) 0) 0 xa))
  have qb := below_setRow (g := w.heap.size + 1) b0 (by omega) (v8 (spl (List.replicate (la + lb) 0) 0 xa))
  generalize w2.setRow (w.heap.size + 1) (v8 (spl (List.replicate (la + lb) 0) 0 xa)) = w3 at q0 q1 qb ⊢
  have hb3 := hb.below qb
  have hsl : (spl (List.replicate (la + lb) 0) 0 xa).length = la + lb := by rw [spl_length _ _ _ (by simp; omega)]; simp
  have hboth : spl (spl (List.replicate (la + lb) 0) 0 xa) la xb = xa ++ xb := by rw [← hla, ← hlb]; exact spl_both xa xb
  clear r0 r1 b0 ha2
  have hsum : ∀ wx n, n = la + lb → Below w.heap.size w wx → Row wx (w.heap.size + 1) 5 (v8 (xa ++ xb)) → Calls Tryd.prog 59 #[.slice (some ⟨w.heap.size + 1, 0, none⟩) n n] wx fun e w' => e = .returned (.agg (v8 (shaS (xa ++ xb)))) ∧ Below wx.heap.size wx w' := fun wx n hn hbx hr =>
    sum_any (xa ++ xb) _ _ _ wx (by simp; omega) (Nat.le_refl _) (by omega) (hl.below hbx) hr.bytes
  have hlt1 := q1.lt
  rcases Nat.eq_zero_or_pos lb with hz | hz
  · subst hz
    simp only [Nat.add_zero] at q0 q1 qb hsl hboth hsum ⊢
    go_wp2_with (first | (refine copy8 (.tmp 18) (.tmp 19) 28 28 (by rfl) (by rfl) 5 Tryd.underlying28 (by kernel_rfl) (some ⟨w.heap.size + 1, 0, none⟩) sb 0 0 0 cb (by rfl) (by rfl) (w.heap.size + 1) la _ 5 q1 xb (by omega) (fun h => by omega) hb3 (by omega) ?_; rw [hboth]) | (go_at_call 59; refine Calls.mono (hsum _ _ rfl (below_setRow qb (by omega) _) (q1.setRow _)) ?_; rintro e w4 ⟨rfl, hb4⟩) | (refine store_row0 24 (.tmp 4) (.tmp 22) (by rfl) (by rfl) (by rfl) w.heap.size (v8 (shaS (xa ++ xb))) (by rfl) (by rfl) 24 _ ((q0.setRowOther (by omega) _).below hb4 (by simp; omega)) i25 hold (v8_one _) ?_))
    exact bodyPost_ret (results_cell_row Tryd.results63 _ _ w.heap.size 24 (v8 (shaS (xa ++ xb))) (0, 0) _ rfl (((q0.setRowOther (g := w.heap.size + 1) (by omega) (v8 (xa ++ xb))).below hb4 (by simp; omega)).setRow _) Tryd.underlying24 rfl i25) rfl ⟨rfl, below_setRow ((below_setRow (g := w.heap.size + 1) qb (by omega) (v8 (xa ++ xb))).trans (hb4.mono (by simp; omega))) (Nat.le_refl _) _⟩
  · have hz' : ¬ la + lb = la := by omega
    go_wp2_with (first | (refine copy8 (.tmp 18) (.tmp 19) 28 28 (by rfl) (by rfl) 5 Tryd.underlying28 (by kernel_rfl) (some ⟨w.heap.size + 1, la, none⟩) sb _ _ lb cb (by rfl) (by rfl) (w.heap.size + 1) la _ 5 q1 xb (by omega) (fun _ => rfl) hb3 (by omega) ?_; rw [hboth]) | (go_at_call 59; refine Calls.mono (hsum _ _ (by omega) (below_setRow qb (by omega) _) (q1.setRow _)) ?_; rintro e w4 ⟨rfl, hb4⟩) | (refine store_row0 24 (.tmp 4) (.tmp 22) (by rfl) (by rfl) (by rfl) w.heap.size (v8 (shaS (xa ++ xb))) (by rfl) (by rfl) 24 _ ((q0.setRowOther (by omega) _).below hb4 (by simp; omega)) i25 hold (v8_one _) ?_))
    exact bodyPost_ret (results_cell_row Tryd.results63 _ _ w.heap.size 24 (v8 (shaS (xa ++ xb))) (0, 0) _ rfl (((q0.setRowOther (g := w.heap.size + 1) (by omega) (v8 (xa ++ xb))).below hb4 (by simp; omega)).setRow _) Tryd.underlying24 rfl i25) rfl ⟨rfl, below_setRow ((below_setRow (g := w.heap.size + 1) qb (by omega) (v8 (xa ++ xb))).trans (hb4.mono (by simp; omega))) (Nat.le_refl _) _⟩
end

section
open Go.RowKit

def In8 (l : List Int) : Prop := ∀ j, 0 ≤ gi l j ∧ gi l j < 256
theorem in8_of_all {l : List Int} (h : ∀ x ∈ l, 0 ≤ x ∧ x < 256) : In8 l := fun j => by
  unfold gi
  by_cases hj : j < l.length
  · have : l.getD j 0 = l[j] := by simp [hj]
    rw [this]; exact h _ (List.getElem_mem hj)
  · have : l.getD j 0 = 0 := by simp [List.getElem?_eq_none (show l.length ≤ j by omega)]
    rw [this]; omega
theorem all_spl {l cs : List Int} (off : Nat) (h : ∀ x ∈ l, 0 ≤ x ∧ x < 256) (hc : ∀ x ∈ cs, 0 ≤ x ∧ x < 256) : ∀ x ∈ spl l off cs, 0 ≤ x ∧ x < 256 := fun x hx => by
  unfold spl at hx
  rcases List.mem_append.1 hx with hx | hx
  · exact h x (List.mem_of_mem_take hx)
  · rcases List.mem_append.1 hx with hx | hx
    · exact hc x hx
    · exact h x (List.mem_of_mem_drop hx)
theorem all_wbytes (x : Int) : ∀ y ∈ wbytes x, 0 ≤ y ∧ y < 256 := fun y hy => by
  simp only [wbytes, List.mem_cons, List.not_mem_nil, or_false] at hy
  rcases hy with rfl | rfl | rfl | rfl <;> omega
theorem all_idN (s : S8) : ∀ k, ∀ x ∈ idN s k, 0 ≤ x ∧ x < 256
  | 0 => fun x hx => by have := List.eq_of_mem_replicate hx; omega
  | k + 1 => all_spl _ (all_idN s k) (all_wbytes _)
theorem shaS_length (bs : List Int) : (shaS bs).length = 32 := idN_length _ 8 (by omega)
theorem shaS_in8 (bs : List Int) : In8 (shaS bs) := in8_of_all (all_idN _ 8)


theorem Hash.in8 {S : List Int → List Int} (h : Hash S) (l : List Int) : In8 (S l) := by subst h; exact shaS_in8 l
theorem Hash.pair {S : List Int → List Int} (h : Hash S) (xa xb : List Int) (sa sb : Option Addr) (la ca lb cb : Nat) (w : World) (hla : xa.length = la) (hlb : xb.length = lb) (hmax : la + lb ≤ 35184372088832) (hl : Laid w) (ha : Bytes w sa xa) (hb : Bytes w sb xb) :
    Calls Tryd.prog 63 #[.slice sa la ca, .slice sb lb cb] w fun e w' => e = .returned (.agg (v8 (S (xa ++ xb)))) ∧ Below w.heap.size w w' := by subst h; exact pair_any xa xb sa sb la ca lb cb w hla hlb hmax hl ha hb
theorem id_info {l : List Int} (h : l.length = 32) : (Tryd.prog.info? 24).map (·.size) = some (v8 l).size := by rw [v8_size, h]; kernel_rfl
theorem leaf_info {l : List Int} (h : l.length = 20) : (Tryd.prog.info? 55).map (·.size) = some (v8 l).size := by rw [v8_size, h]; kernel_rfl

set_option maxRecDepth 20000 in
set_option maxHeartbeats 1000000 in
theorem start_any (S : List Int → List Int) (hS : Hash S) (H t : List Int) (i : Int) (w : World) (hL : Laid w) (hH : H.length = 20) (ht : t.length = 32) (hi0 : 0 ≤ i) (hi1 : i < 65536) :
    Calls Tryd.prog 31 #[.agg (v8 H), .int .i64 i, .agg (v8 t)] w fun e w' => e = .returned (.agg (v8 (xL S H t i))) ∧ Below w.heap.size w w' := by
  have hx : (xL S H t i).length = 32 := hS.len _
  have hst : ∀ wx, Laid wx → Calls Tryd.prog 57 #[.agg (v8 H), .int .i64 i, .int .i64 255, .agg (v8 t)] wx fun e w' => e = .returned (.agg (v8 (xL S H t i))) ∧ Below wx.heap.size wx w' := fun wx hl => step_any S hS H t i 255 wx hl hH ht hi0 hi1 (by omega) (by omega)
  generalize xL S H t i = X at *
  go_enter Tryd.func31, Tryd.ntmps31
  go_upto_region 1 with fail
  have r0 : Row (World.alloc (World.alloc (World.alloc w (.cells (v8 H) 55)) (.cells (v8 t) 24)) (.cells (v8 (List.replicate 32 0)) 24)) w.heap.size 55 (v8 H) := ((Row.new _ _ _).alloc _).alloc _
  have r1 : Row (World.alloc (World.alloc (World.alloc w (.cells (v8 H) 55)) (.cells (v8 t) 24)) (.cells (v8 (List.replicate 32 0)) 24)) (w.heap.size + 1) 24 (v8 t) := (Row.newAt _ _ _ _ (by simp)).alloc _
  have r2 : Row (World.alloc (World.alloc (World.alloc w (.cells (v8 H) 55)) (.cells (v8 t) 24)) (.cells (v8 (List.replicate 32 0)) 24)) (w.heap.size + 2) 24 (v8 (List.replicate 32 0)) := Row.newAt _ _ _ _ (by simp)
  have b1 : Below w.heap.size w (World.alloc (World.alloc (World.alloc w (.cells (v8 H) 55)) (.cells (v8 t) 24)) (.cells (v8 (List.replicate 32 0)) 24)) := (((Below.refl _ _).alloc (Nat.le_refl _) _).alloc (by simp) _).alloc (by simp; omega) _
  change Code.wp _ _ _ _ ((World.alloc (World.alloc (World.alloc w (.cells (v8 H) 55)) (.cells (v8 t) 24)) (.cells (v8 (List.replicate 32 0)) 24)))
  generalize (World.alloc (World.alloc (World.alloc w (.cells (v8 H) 55)) (.cells (v8 t) 24)) (.cells (v8 (List.replicate 32 0)) 24)) = w1 at r0 r1 r2 b1 ⊢
  have hr2 := r2.lt
  go_wp2_with (first | (refine wpList_load_row (by rfl) 55 (.tmp 3) (by rfl) w.heap.size (by rfl) 55 (v8 H) (0, 0) _ r0 Tryd.underlying55 rfl (leaf_info hH) ?_) | (refine wpList_load_row (by rfl) 24 (.tmp 5) (by rfl) (w.heap.size + 1) (by rfl) 24 (v8 t) (0, 0) _ r1 Tryd.underlying24 rfl (id_info ht) ?_) | (go_at_call 57; (with_reducible refine Calls.mono (hst _ (hL.below b1)) ?_); rintro e w3 ⟨rfl, hb3⟩) | (refine store_row0 24 (.tmp 6) (.tmp 10) (by rfl) (by rfl) (by rfl) (w.heap.size + 2) (v8 X) (by rfl) (by rfl) 24 _ (r2.below hb3 (by omega)) (id_info hx) (by rw [v8_size, v8_size, hx]; simp) (v8_one _) ?_))
  exact bodyPost_ret (results_cell_row Tryd.results31 _ _ (w.heap.size + 2) 24 (v8 X) (0, 0) _ rfl ((r2.below hb3 (by omega)).setRow _) Tryd.underlying24 rfl (id_info hx)) rfl ⟨rfl, below_setRow (b1.trans (hb3.mono b1.size)) (by omega) _⟩

set_option maxRecDepth 20000 in
set_option maxHeartbeats 1000000 in
theorem walk_any (S : List Int → List Int) (hS : Hash S) (H t : List Int) (i : Int) (a b : Nat) (w : World) (hL : Laid w) (hH : H.length = 20) (ht : t.length = 32) (hi0 : 0 ≤ i) (hi1 : i < 65536) (hb : b ≤ 256) :
    Calls Tryd.prog 30 #[.agg (v8 H), .int .i64 i, .int .i64 (a : Int), .int .i64 (b : Int), .agg (v8 t)] w fun e w' => e = .returned (.agg (v8 (walkL S H i a (b - a) t))) ∧ Below w.heap.size w w' := by
  have hlen := walkL_len (fun l => hS.len l) H i a t ht
  have hst : ∀ wx k, Laid wx → a + k < b → Calls Tryd.prog 57 #[.agg (v8 H), .int .i64 i, .int .i64 ((a : Int) + (k : Int)), .agg (v8 (walkL S H i a k t))] wx fun e w' => e = .returned (.agg (v8 (walkL S H i a (k + 1) t))) ∧ Below wx.heap.size wx w' := fun wx k hl hk => by
    have := step_any S hS H (walkL S H i a k t) i ((a + k : Nat) : Int) wx hl hH (hlen k) hi0 hi1 (by omega) (by omega)
    rwa [Int.natCast_add] at this
  generalize hT : walkL S H i a = T at *
  have hT0 : T 0 t = t := by rw [← hT]; rfl
  clear hT
  go_enter Tryd.func30, Tryd.ntmps30
  go_upto_region 1 with fail
  have r0 : Row (World.alloc (World.alloc (World.alloc w (.cells (v8 H) 55)) (.cells (v8 t) 24)) (.cells (v8 (List.replicate 32 0)) 24)) w.heap.size 55 (v8 H) := ((Row.new _ _ _).alloc _).alloc _
  have r1 : Row (World.alloc (World.alloc (World.alloc w (.cells (v8 H) 55)) (.cells (v8 t) 24)) (.cells (v8 (List.replicate 32 0)) 24)) (w.heap.size + 1) 24 (v8 t) := (Row.newAt _ _ _ _ (by simp)).alloc _
  have r2 : Row (World.alloc (World.alloc (World.alloc w (.cells (v8 H) 55)) (.cells (v8 t) 24)) (.cells (v8 (List.replicate 32 0)) 24)) (w.heap.size + 2) 24 (v8 (List.replicate 32 0)) := Row.newAt _ _ _ _ (by simp)
  have b1 : Below w.heap.size w (World.alloc (World.alloc (World.alloc w (.cells (v8 H) 55)) (.cells (v8 t) 24)) (.cells (v8 (List.replicate 32 0)) 24)) := (((Below.refl _ _).alloc (Nat.le_refl _) _).alloc (by simp) _).alloc (by simp; omega) _
  change Code.wp _ _ _ _ ((World.alloc (World.alloc (World.alloc w (.cells (v8 H) 55)) (.cells (v8 t) 24)) (.cells (v8 (List.replicate 32 0)) 24)))
  generalize (World.alloc (World.alloc (World.alloc w (.cells (v8 H) 55)) (.cells (v8 t) 24)) (.cells (v8 (List.replicate 32 0)) 24)) = w1 at r0 r1 r2 b1 ⊢
  go_wp2
  go_loopw [11] (fun v wr => ∃ k : Nat, (k = 0 ∨ a + k ≤ b) ∧ v = .int .i64 ((a : Int) + (k : Int)) ∧ Row wr w.heap.size 55 (v8 H) ∧ Row wr (w.heap.size + 1) 24 (v8 (T k t)) ∧ Row wr (w.heap.size + 2) 24 (v8 (List.replicate 32 0)) ∧ Below w.heap.size w wr) (fun v _ => b - (intOf v).toNat)
  case atStart => exact ⟨0, Or.inl rfl, by simp, r0, by rw [hT0]; exact r1, r2, b1⟩
  case round =>
    clear r0 r1 r2 b1
    obtain ⟨k, hk, rfl, q0, q1, q2, qb⟩ := hrel
    have hq2 := q2.lt
    by_cases hlt : a + k < b
    · have d1 : decide ((a : Int) + (k : Int) < (b : Int)) = true := by simp; omega
      have d2 : (a : Int) + (k : Int) < (b : Int) := by omega
      have hc := hst wr k (hL.below qb) hlt
      have hl1 := hlen (k + 1)
      go_wp2_with (first | (refine wpList_load_row (by rfl) 55 (.tmp 5) (by rfl) w.heap.size (by rfl) 55 (v8 H) (0, 0) _ q0 Tryd.underlying55 rfl (leaf_info hH) ?_) | (refine wpList_load_row (by rfl) 24 (.tmp 9) (by rfl) (w.heap.size + 1) (by rfl) 24 (v8 (T k t)) (0, 0) _ q1 Tryd.underlying24 rfl (id_info (hlen k)) ?_) | (go_at_call 57; (with_reducible refine Calls.mono hc ?_); rintro e w3 ⟨rfl, hb3⟩) | (refine store_row0 24 (.tmp 9) (.tmp 22) (by rfl) (by rfl) (by rfl) (w.heap.size + 1) (v8 (T (k + 1) t)) (by rfl) (by rfl) 24 _ (q1.below hb3 (by omega)) (id_info hl1) (by rw [v8_size, v8_size, hl1, hlen k]) (v8_one _) ?_))
      go_roundw
      case rel => exact ⟨k + 1, Or.inr (by omega), by go_num, (q0.below hb3 (by omega)).setRowOther (by omega) _, (q1.below hb3 (by omega)).setRow _, (q2.below hb3 (by omega)).setRowOther (by omega) _, below_setRow (qb.trans (hb3.mono qb.size)) (by omega) _⟩
      case measure => simp [intOf]; omega
    · have d1 : decide ((a : Int) + (k : Int) < (b : Int)) = false := by simp; omega
      have d2 : ¬ (a : Int) + (k : Int) < (b : Int) := by omega
      have hkk : b - a = k := by omega
      have hl1 := hlen k
      go_wp2_with (first | (refine wpList_load_row (by rfl) 24 (.tmp 9) (by rfl) (w.heap.size + 1) (by rfl) 24 (v8 (T k t)) (0, 0) _ q1 Tryd.underlying24 rfl (id_info hl1) ?_) | (refine store_row0 24 (.tmp 10) (.tmp 23) (by rfl) (by rfl) (by rfl) (w.heap.size + 2) (v8 (T k t)) (by rfl) (by rfl) 24 _ q2 (id_info hl1) (by rw [v8_size, v8_size, hl1]; simp) (v8_one _) ?_))
      exact bodyPost_ret (results_cell_row Tryd.results30 _ _ (w.heap.size + 2) 24 (v8 (T k t)) (0, 0) _ rfl (q2.setRow _) Tryd.underlying24 rfl (id_info hl1)) rfl ⟨rfl, below_setRow qb (by omega) _⟩

set_option maxRecDepth 20000 in
set_option maxHeartbeats 1000000 in
theorem text_any (S : List Int → List Int) (hS : Hash S) (H c msg : List Int) (sp : Option Addr) (len cap : Nat) (w : World) (hL : Laid w) (hH : H.length = 20) (hc : c.length = 32) (hm : msg.length = len) (hmax : len ≤ 17592186044416) (hby : Bytes w sp msg) :
    Calls Tryd.prog 39 #[.agg (v8 H), .agg (v8 c), .slice sp len cap] w fun e w' => e = .returned (.agg (v8 (textL S H c msg))) ∧ Below w.heap.size w w' := by
  have hHl : (H ++ n2 33153).length = 22 := by rw [List.length_append, hH, n2_len]
  have h95 : (Tryd.prog.info? 95).map (·.size) = some (v8 (H ++ n2 33153)).size := by rw [v8_size, hHl]; kernel_rfl
  have hT : textL S H c msg = S (H ++ n2 33153 ++ c ++ msg) := rfl
  rw [hT]
  clear hT
  have hhead : ∀ wx, Calls Tryd.prog 58 #[.agg (v8 H), .int .u16 33153] wx fun e w' => e = .returned (.agg (v8 (H ++ n2 33153))) ∧ Below wx.heap.size wx w' := fun wx => head_any H 33153 wx hH
  generalize hX0 : H ++ n2 33153 = X0 at *
  go_enter Tryd.func39, Tryd.ntmps39
  go_upto_region 2 with fail
  have r0 : Row (World.alloc (World.alloc (World.alloc (World.alloc w (.cells (v8 H) 55)) (.cells (v8 c) 24)) (.cells (v8 (List.replicate 32 0)) 24)) (.cells (v8 (List.replicate 54 0)) 105)) w.heap.size 55 (v8 H) := (((Row.new _ _ _).alloc _).alloc _).alloc _
  have r1 : Row (World.alloc (World.alloc (World.alloc (World.alloc w (.cells (v8 H) 55)) (.cells (v8 c) 24)) (.cells (v8 (List.replicate 32 0)) 24)) (.cells (v8 (List.replicate 54 0)) 105)) (w.heap.size + 1) 24 (v8 c) := ((Row.newAt _ _ _ _ (by simp)).alloc _).alloc _
  have r2 : Row (World.alloc (World.alloc (World.alloc (World.alloc w (.cells (v8 H) 55)) (.cells (v8 c) 24)) (.cells (v8 (List.replicate 32 0)) 24)) (.cells (v8 (List.replicate 54 0)) 105)) (w.heap.size + 2) 24 (v8 (List.replicate 32 0)) := (Row.newAt _ _ _ _ (by simp)).alloc _
  have r3 : Row (World.alloc (World.alloc (World.alloc (World.alloc w (.cells (v8 H) 55)) (.cells (v8 c) 24)) (.cells (v8 (List.replicate 32 0)) 24)) (.cells (v8 (List.replicate 54 0)) 105)) (w.heap.size + 3) 105 (v8 (List.replicate 54 0)) := Row.newAt _ _ _ _ (by simp)
  have b1 : Below w.heap.size w (World.alloc (World.alloc (World.alloc (World.alloc w (.cells (v8 H) 55)) (.cells (v8 c) 24)) (.cells (v8 (List.replicate 32 0)) 24)) (.cells (v8 (List.replicate 54 0)) 105)) := ((((Below.refl _ _).alloc (Nat.le_refl _) _).alloc (by simp) _).alloc (by simp; omega) _).alloc (by simp; omega) _
  change Code.wp _ _ _ _ ((World.alloc (World.alloc (World.alloc (World.alloc w (.cells (v8 H) 55)) (.cells (v8 c) 24)) (.cells (v8 (List.replicate 32 0)) 24)) (.cells (v8 (List.replicate 54 0)) 105)))
  generalize (World.alloc (World.alloc (World.alloc (World.alloc w (.cells (v8 H) 55)) (.cells (v8 c) 24)) (.cells (v8 (List.replicate 32 0)) 24)) (.cells (v8 (List.replicate 54 0)) 105)) = w1 at r0 r1 r2 r3 b1 ⊢
  have hr3 := r3.lt
  go_upto_region 3 with (first | (refine wpList_load_row (by rfl) 55 (.tmp 3) (by rfl) w.heap.size (by rfl) 55 (v8 H) (0, 0) _ r0 Tryd.underlying55 rfl (leaf_info hH) ?_) | (go_at_call 58; (with_reducible refine Calls.mono (hhead _) ?_); rintro e w3 ⟨rfl, hb3⟩) | (refine store_row0 95 (.tmp 8) (.tmp 10) (by rfl) (by rfl) (by rfl) w3.heap.size (v8 X0) (by rfl) (by rfl) 95 (v8 (List.replicate 22 0)) (Row.new w3 95 _) h95 (by rw [v8_size, v8_size, hHl]; simp) (v8_one _) ?_))
  have hs3 := hb3.size
  have p1 := ((r1.below hb3 (by omega)).alloc (.cells (v8 (List.replicate 22 0)) 95)).setRowOther (g := w3.heap.size) (by omega) (v8 X0)
  have p2 := ((r2.below hb3 (by omega)).alloc (.cells (v8 (List.replicate 22 0)) 95)).setRowOther (g := w3.heap.size) (by omega) (v8 X0)
  have p3 := ((r3.below hb3 (by omega)).alloc (.cells (v8 (List.replicate 22 0)) 95)).setRowOther (g := w3.heap.size) (by omega) (v8 X0)
  have p4 := (Row.new w3 95 (v8 (List.replicate 22 0))).setRow (v8 X0)
  have pb : Below w.heap.size w ((w3.alloc (.cells (v8 (List.replicate 22 0)) 95)).setRow w3.heap.size (v8 X0)) := below_setRow ((b1.trans (hb3.mono b1.size)).alloc (by omega) _) (by omega) _
  change Code.wp _ _ _ _ ((w3.alloc (.cells (v8 (List.replicate 22 0)) 95)).setRow w3.heap.size (v8 X0))
  have hg : w.heap.size + 3 < w3.heap.size := by omega
  generalize (w3.alloc (.cells (v8 (List.replicate 22 0)) 95)).setRow w3.heap.size (v8 X0) = w4 at p1 p2 p3 p4 pb ⊢
  refine wp_region_quiet_tail 2 (by kernel_rfl) (by kernel_rfl) ?_
  simp only [List.take_succ_cons, List.take_zero, List.drop_succ_cons, List.drop_zero]
  repeat (go_big_quiet_step (fail))
  refine wpQuiet_nil ?_
  rintro _ ⟨nq, rfl⟩
  refine copy8 (w := w4.drewN nq) (.tmp 11) (.tmp 12) 28 28 (by rfl) (by rfl) 5 Tryd.underlying28 (by kernel_rfl) (some ⟨w.heap.size + 3, 0, none⟩) (some ⟨w3.heap.size, 0, none⟩) 54 54 22 22 (by rfl) (by rfl) (w.heap.size + 3) (0) (List.replicate 54 0) 105 (p3.drewN nq) X0 (by rw [hHl]; rfl) (fun _ => rfl) ((p4.drewN nq).bytes) (by rw [hHl]; simp) ?_
  simp only [Act.put, List.setIfInBounds_toArray, List.set_cons_succ, List.set_cons_zero]
  rw [spl_zero, hHl]
  have q1 := (p1.drewN nq).setRowOther (g := w.heap.size + 3) (by omega) (v8 (X0 ++ List.replicate (54 - 22) 0))
  have q2 := (p2.drewN nq).setRowOther (g := w.heap.size + 3) (by omega) (v8 (X0 ++ List.replicate (54 - 22) 0))
  have q3 := (p3.drewN nq).setRow (v8 (X0 ++ List.replicate (54 - 22) 0))
  have qb := below_setRow (g := w.heap.size + 3) (below_drewN pb nq) (by omega) (v8 (X0 ++ List.replicate (54 - 22) 0))
  generalize (w4.drewN nq).setRow (w.heap.size + 3) (v8 (X0 ++ List.replicate (54 - 22) 0)) = w5 at q1 q2 q3 qb ⊢
  go_upto_region 4 with fail
  refine wp_region_quiet_tail 2 (by kernel_rfl) (by kernel_rfl) ?_
  simp only [List.take_succ_cons, List.take_zero, List.drop_succ_cons, List.drop_zero]
  repeat (go_big_quiet_step (fail))
  refine wpQuiet_nil ?_
  rintro _ ⟨nq, rfl⟩
  refine copy8 (w := w5.drewN nq) (.tmp 14) (.tmp 15) 28 28 (by rfl) (by rfl) 5 Tryd.underlying28 (by kernel_rfl) (some ⟨w.heap.size + 3, 22, none⟩) (some ⟨w.heap.size + 1, 0, none⟩) 32 32 32 32 (by rfl) (by rfl) (w.heap.size + 3) (22) (X0 ++ List.replicate (54 - 22) 0) 105 (q3.drewN nq) c (by rw [hc]; rfl) (fun _ => rfl) ((q1.drewN nq).bytes) (by rw [List.length_append, hHl, hc]; simp) ?_
  simp only [Act.put, List.setIfInBounds_toArray, List.set_cons_succ, List.set_cons_zero]
  rw [show spl (X0 ++ List.replicate (54 - 22) 0) 22 c = X0 ++ c by rw [← hHl]; exact spl_end _ _ _ (by rw [hHl, hc])]
  have u2 := (q2.drewN nq).setRowOther (g := w.heap.size + 3) (by omega) (v8 (X0 ++ c))
  have u3 := (q3.drewN nq).setRow (v8 (X0 ++ c))
  have ub := below_setRow (g := w.heap.size + 3) (below_drewN qb nq) (by omega) (v8 (X0 ++ c))
  generalize (w5.drewN nq).setRow (w.heap.size + 3) (v8 (X0 ++ c)) = w7 at u2 u3 ub ⊢
  have hl4 : (X0 ++ c).length = 54 := by rw [List.length_append, hHl, hc]
  generalize hX : X0 ++ c = X at *
  have hpair := hS.pair X msg (some ⟨w.heap.size + 3, 0, none⟩) sp 54 54 len cap w7 hl4 hm (by omega) (hL.below ub) u3.bytes (hby.below ub)
  have hsl := hS.len (X ++ msg)
  have hu3 := u3.lt
  go_wp2_with (first | (go_at_call 63; (with_reducible refine Calls.mono hpair ?_); rintro e w8 ⟨rfl, hb8⟩) | (refine store_row0 24 (.tmp 6) (.tmp 19) (by rfl) (by rfl) (by rfl) (w.heap.size + 2) (v8 (S (X ++ msg))) (by rfl) (by rfl) 24 _ (u2.below hb8 (by omega)) (id_info hsl) (by rw [v8_size, v8_size, hsl]; simp) (v8_one _) ?_))
  exact bodyPost_ret (results_cell_row Tryd.results39 _ _ (w.heap.size + 2) 24 (v8 (S (X ++ msg))) (0, 0) _ rfl ((u2.below hb8 (by omega)).setRow _) Tryd.underlying24 rfl (id_info hsl)) rfl ⟨by rw [← hX, ← hX0], below_setRow (ub.trans (hb8.mono ub.size)) (by omega) _⟩

set_option maxRecDepth 20000 in
set_option maxHeartbeats 1000000 in
theorem hashAt_any (sig : List Int) (sp : Option Addr) (len cap k : Nat) (w : World) (hl : sig.length = len) (hcap : len ≤ cap) (hk : k + 32 ≤ len) (hby : Bytes w sp sig) :
    Calls Tryd.prog 40 #[.slice sp len cap, .int .i64 (k : Int)] w fun e w' => e = .returned (.agg (v8 (cutL sig k))) ∧ Below w.heap.size w w' := by
  obtain ⟨b, o, rfl, _⟩ := hby (by omega)
  have hcl : (cutL sig k).length = 32 := by unfold cutL; simp; omega
  have hsrc : Bytes w (some ⟨b, o + k, none⟩) (cutL sig k) := (Bytes.drop hby k).take 32
  generalize cutL sig k = X at *
  have k1 : (k : Int) ≤ (len : Int) := by omega
  have k2 : (0 : Int) ≤ (k : Int) := by omega
  have k3 : ¬ cap = k := by omega
  go_enter Tryd.func40, Tryd.ntmps40
  go_upto_region 2 with fail
  have r0 : Row (World.alloc (World.alloc w (.cells (v8 (List.replicate 32 0)) 24)) (.cells (v8 (List.replicate 32 0)) 24)) w.heap.size 24 (v8 (List.replicate 32 0)) := (Row.new _ _ _).alloc _
  have r1 : Row (World.alloc (World.alloc w (.cells (v8 (List.replicate 32 0)) 24)) (.cells (v8 (List.replicate 32 0)) 24)) (w.heap.size + 1) 24 (v8 (List.replicate 32 0)) := Row.newAt _ _ _ _ (by simp)
  have b1 : Below w.heap.size w (World.alloc (World.alloc w (.cells (v8 (List.replicate 32 0)) 24)) (.cells (v8 (List.replicate 32 0)) 24)) := ((Below.refl _ _).alloc (Nat.le_refl _) _).alloc (by simp) _
  change Code.wp _ _ _ _ ((World.alloc (World.alloc w (.cells (v8 (List.replicate 32 0)) 24)) (.cells (v8 (List.replicate 32 0)) 24)))
  generalize (World.alloc (World.alloc w (.cells (v8 (List.replicate 32 0)) 24)) (.cells (v8 (List.replicate 32 0)) 24)) = w1 at r0 r1 b1 ⊢
  have hs1 := hsrc.below b1
  refine wp_region_quiet_tail 4 (by kernel_rfl) (by kernel_rfl) ?_
  simp only [List.take_succ_cons, List.take_zero, List.drop_succ_cons, List.drop_zero]
  repeat (go_big_quiet_step (fail))
  refine wpQuiet_nil ?_
  rintro _ ⟨nq, rfl⟩
  refine copy8 (w := w1.drewN nq) (.tmp 6) (.tmp 9) 28 28 (by rfl) (by rfl) 5 Tryd.underlying28 (by kernel_rfl) (some ⟨w.heap.size + 1, 0, none⟩) (some ⟨b, o + k, none⟩) 32 32 (len - k) (cap - k) (by rfl) (by rfl) (w.heap.size + 1) (0) (List.replicate 32 0) 24 (r1.drewN nq) X (by rw [hcl]; omega) (fun _ => rfl) (hs1.drewN nq) (by simp; omega) ?_
  simp only [Act.put, List.setIfInBounds_toArray, List.set_cons_succ, List.set_cons_zero]
  rw [show spl (List.replicate 32 0) 0 X = X by rw [spl_zero, hcl]; simp]
  have q0 := (r0.drewN nq).setRowOther (g := w.heap.size + 1) (by omega) (v8 X)
  have q1 := (r1.drewN nq).setRow (v8 X)
  have qb := below_setRow (g := w.heap.size + 1) (below_drewN b1 nq) (by omega) (v8 X)
  generalize (w1.drewN nq).setRow (w.heap.size + 1) (v8 X) = w2 at q0 q1 qb ⊢
  go_wp2_with (first | (refine wpList_load_row (by rfl) 24 (.tmp 5) (by rfl) (w.heap.size + 1) (by rfl) 24 (v8 X) (0, 0) _ q1 Tryd.underlying24 rfl (id_info hcl) ?_) | (refine store_row0 24 (.tmp 4) (.tmp 11) (by rfl) (by rfl) (by rfl) w.heap.size (v8 X) (by rfl) (by rfl) 24 _ q0 (id_info hcl) (by rw [v8_size, v8_size, hcl]; simp) (v8_one _) ?_))
  exact bodyPost_ret (results_cell_row Tryd.results40 _ _ (w.heap.size) 24 (v8 X) (0, 0) _ rfl (q0.setRow _) Tryd.underlying24 rfl (id_info hcl)) rfl ⟨rfl, below_setRow qb (Nat.le_refl _) _⟩

set_option maxRecDepth 20000 in
set_option maxHeartbeats 1000000 in
theorem digit0 (b : Int) (w : World) (h0 : 0 ≤ b) (h1 : b < 256) :
    Calls Tryd.prog 62 #[.int .u8 b, .int .i64 0] w fun e w' => e = .returned (.int .i64 (b / 2 ^ 6 % 4)) ∧ Below w.heap.size w w' := by
  have h := and3 (b / 64) (by omega) (by omega)
  go_enter Tryd.func62, Tryd.ntmps62
  go_wp2
  go_ret
  exact ⟨rfl, Below.refl _ _⟩

set_option maxRecDepth 20000 in
set_option maxHeartbeats 1000000 in
theorem digit1 (b : Int) (w : World) (h0 : 0 ≤ b) (h1 : b < 256) :
    Calls Tryd.prog 62 #[.int .u8 b, .int .i64 1] w fun e w' => e = .returned (.int .i64 (b / 2 ^ 4 % 4)) ∧ Below w.heap.size w w' := by
  have h := and3 (b / 16) (by omega) (by omega)
  go_enter Tryd.func62, Tryd.ntmps62
  go_wp2
  go_ret
  exact ⟨rfl, Below.refl _ _⟩

set_option maxRecDepth 20000 in
set_option maxHeartbeats 1000000 in
theorem digit2 (b : Int) (w : World) (h0 : 0 ≤ b) (h1 : b < 256) :
    Calls Tryd.prog 62 #[.int .u8 b, .int .i64 2] w fun e w' => e = .returned (.int .i64 (b / 2 ^ 2 % 4)) ∧ Below w.heap.size w w' := by
  have h := and3 (b / 4) (by omega) (by omega)
  go_enter Tryd.func62, Tryd.ntmps62
  go_wp2
  go_ret
  exact ⟨rfl, Below.refl _ _⟩

set_option maxRecDepth 20000 in
set_option maxHeartbeats 1000000 in
theorem digit3 (b : Int) (w : World) (h0 : 0 ≤ b) (h1 : b < 256) :
    Calls Tryd.prog 62 #[.int .u8 b, .int .i64 3] w fun e w' => e = .returned (.int .i64 (b / 2 ^ 0 % 4)) ∧ Below w.heap.size w w' := by
  have h := and3 b (by omega) (by omega)
  go_enter Tryd.func62, Tryd.ntmps62
  go_wp2
  go_ret
  exact ⟨by simp, Below.refl _ _⟩

theorem digit_any (bs : List Int) (i : Nat) (w : World) (h8 : In8 bs) :
    Calls Tryd.prog 62 #[.int .u8 (gi bs (i / 4)), .int .i64 ((i % 4 : Nat) : Int)] w fun e w' => e = .returned (.int .i64 (digN bs i)) ∧ Below w.heap.size w w' := by
  unfold digN
  obtain ⟨h0, h1⟩ := h8 (i / 4)
  rcases (by omega : i % 4 = 0 ∨ i % 4 = 1 ∨ i % 4 = 2 ∨ i % 4 = 3) with h | h | h | h <;> rw [h]
  · exact digit0 _ w h0 h1
  · exact digit1 _ w h0 h1
  · exact digit2 _ w h0 h1
  · exact digit3 _ w h0 h1
end

end Go.Proofs.YtoebnkepeledmaaDoor
