/- WireBounds, some of its cases: it returns true and turns no old memory. -/
import Derived.Test.YtcdmjjlbeifgjaaBoundsA
namespace Go.Proofs.Ytcdmjjlbeifgjaa
open Go.RowKit

set_option maxRecDepth 20000 in
set_option maxHeartbeats 1000000 in
theorem b2a (which n : Int) (r : Nat) (w : World) (hr : n % 4 = r) (h4 : r < 4) (hc : which % 6 = 2) (h1 : r ≤ 1) : Calls Try.prog 6 #[.int .i64 which, .int .i64 n] w fun e w' => e = .returned (.bool true) ∧ Below w.heap.size w w' := by
  have hw4 := fun w1 => within_any n 4 w1 (by decide) (by decide)
  have hw6 := fun w1 => within_any which 6 w1 (by decide) (by decide)
  rw [hr] at hw4
  rw [hc] at hw6
  clear hr hc
  have hE : encE { m9 with data := List.replicate (5999 + r) 0 } = 0 := by
    rcases (by omega : r = 0 ∨ r = 1) with rfl | rfl
    all_goals simp [encE, rowOf, rowE, partE, dataE, numE, blo, bhi, m9]
  have henc := fun w2 lp dp lc dc h => encode_any { m9 with data := List.replicate (5999 + r) 0 } lp dp lc dc w2 h (Nat.zero_le _) (by simp; omega)
  rw [hE] at henc
  clear hE
  generalize encB { m9 with data := List.replicate (5999 + r) 0 } = xs at henc
  generalize hM : ({ m9 with data := List.replicate (5999 + r) 0 } : M) = M2 at henc
  go_enter Try.func6, Try.ntmps6
  go_upto_region 5 with (first | (go_at_call 9; (with_reducible refine Calls.mono (known_any _) ?_); rintro e w1 ⟨rfl, hb1⟩) | (go_at_call 17; (with_reducible refine Calls.mono (hw4 _) ?_); rintro e w9 ⟨rfl, hw⟩; obtain rfl := hw.symm; clear hw) | (refine store_row0 28 (.tmp 5) (.tmp 13) (by rfl) (by rfl) (by rfl) w1.heap.size (mc m9 none 0 none 0) (by rfl) (by rfl) 28 (mc m0 none 0 none 0) ?hrow ?hi ?hold mc_one ?_; (case hrow => exact Row.new w1 28 _); (case hi => rw [mc_size rfl]; exact info28); (case hold => rw [mc_size rfl, mc_size rfl])))
  have hR := (Row.new w1 28 (mc m0 none 0 none 0)).setRow (mc m9 none 0 none 0)
  have hBW : Below w1.heap.size w1 ((w1.alloc (Obj.cells (mc m0 none 0 none 0) 28)).setRow w1.heap.size (mc m9 none 0 none 0)) := below_setRow ((Below.refl _ _).alloc (Nat.le_refl _) _) (Nat.le_refl _) _
  rw [lit0]
  generalize (w1.alloc (Obj.cells (mc m0 none 0 none 0) 28)).setRow w1.heap.size (mc m9 none 0 none 0) = W at *
  have hc37 : W.cell? ⟨w1.heap.size, 37, none⟩ = _ := hR.cell.trans (mc37 rfl)
  have hf37 := hR.frozen (j := 37)
  have hmk := fun W => make8 (5999 + r) (5999 + (r : Int)) (by omega) (by omega) W
  have hca : ∀ o, (W.alloc o).cell? ⟨w1.heap.size, 37, none⟩ = _ := fun o => (hR.alloc o).cell.trans (mc37 rfl)
  have hfa : ∀ o, (W.alloc o).frozen? ⟨w1.heap.size, 37, none⟩ = false := fun o => (hR.alloc o).frozen

  go_upto_region 19 with (first | (go_at_call 17; (with_reducible refine Calls.mono (hw6 _) ?_); rintro e w9 ⟨rfl, hw⟩; obtain rfl := hw.symm; clear hw))
  have hlt := hR.lt
  have hR2 := (hR.alloc (.cells (v8 (List.replicate (5999 + r) 0)) 5)).set0 37 (.slice (some ⟨W.heap.size, 0, none⟩) (5999 + r) (5999 + r))
  rw [mset37 rfl (List.replicate (5999 + r) 0) _ (by simp)] at hR2
  rw [hM] at hR2
  have hby : Bytes ((W.alloc (.cells (v8 (List.replicate (5999 + r) 0)) 5)).setCell ⟨w1.heap.size, 37, none⟩ (.slice (some ⟨W.heap.size, 0, none⟩) (5999 + r) (5999 + r))) (some ⟨W.heap.size, 0, none⟩) (List.replicate (5999 + r) 0) := Bytes.setOther (a := ⟨w1.heap.size, 37, none⟩) (bytes_new W 5 _) (show W.heap.size ≠ w1.heap.size by omega) _
  have hF2 : Fld ((W.alloc (.cells (v8 (List.replicate (5999 + r) 0)) 5)).setCell ⟨w1.heap.size, 37, none⟩ (.slice (some ⟨W.heap.size, 0, none⟩) (5999 + r) (5999 + r))) M2 none 0 (some ⟨W.heap.size, 0, none⟩) (5999 + r) := ⟨by rw [← hM]; rfl, by rw [← hM]; exact Ints.nil _ _, by rw [← hM]; exact hby, by rw [← hM]; exact Nat.le_refl 0, by rw [← hM]; simp, fun h => by cases h⟩
  have hB2 : Below w1.heap.size W ((W.alloc (.cells (v8 (List.replicate (5999 + r) 0)) 5)).setCell ⟨w1.heap.size, 37, none⟩ (.slice (some ⟨W.heap.size, 0, none⟩) (5999 + r) (5999 + r))) := Below.setCell (p := ⟨w1.heap.size, 37, none⟩) ((Below.refl w1.heap.size W).alloc (by omega) _) (Nat.le_refl w1.heap.size) _
  clear hR hmk hca hfa hby
  generalize (W.alloc (.cells (v8 (List.replicate (5999 + r) 0)) 5)).setCell ⟨w1.heap.size, 37, none⟩ (.slice (some ⟨W.heap.size, 0, none⟩) (5999 + r) (5999 + r)) = W2 at *
  go_wp2_with (first | (refine load_rowW ?hw 28 (.tmp 5) (by rfl) w1.heap.size (by rfl) 28 (mc M2 none 0 (some ⟨W.heap.size, 0, none⟩) (5999 + r)) (0, 0) _ hR2 Try.underlying28 rfl ?hi ?_; (case hw => rfl); (case hi => rw [mc_size hF2.key]; exact info28)) | (go_at_call 11; (with_reducible refine Calls.mono (henc _ _ _ _ _ hF2) ?_); rintro e w3 ⟨sp, cap, rfl, ho, hb⟩))
  go_ret
  exact ⟨rfl, hb1.trans ((hBW.trans hB2).mono hb1.size |>.trans (hb.mono (by have := hb1.size; have := hBW.size; have := hB2.size; omega)))⟩
set_option maxRecDepth 20000 in
set_option maxHeartbeats 1000000 in
theorem b2b (which n : Int) (r : Nat) (w : World) (hr : n % 4 = r) (h4 : r < 4) (hc : which % 6 = 2) (h1 : 2 ≤ r) : Calls Try.prog 6 #[.int .i64 which, .int .i64 n] w fun e w' => e = .returned (.bool true) ∧ Below w.heap.size w w' := by
  have hw4 := fun w1 => within_any n 4 w1 (by decide) (by decide)
  have hw6 := fun w1 => within_any which 6 w1 (by decide) (by decide)
  rw [hr] at hw4
  rw [hc] at hw6
  clear hr hc
  have hE : encE { m9 with data := List.replicate (5999 + r) 0 } = 5 := by
    rcases (by omega : r = 2 ∨ r = 3) with rfl | rfl
    all_goals simp [encE, rowOf, rowE, partE, dataE, m9]
  have henc := fun w2 lp dp lc dc h => encode_any { m9 with data := List.replicate (5999 + r) 0 } lp dp lc dc w2 h (Nat.zero_le _) (by simp; omega)
  rw [hE] at henc
  clear hE
  generalize encB { m9 with data := List.replicate (5999 + r) 0 } = xs at henc
  generalize hM : ({ m9 with data := List.replicate (5999 + r) 0 } : M) = M2 at henc
  go_enter Try.func6, Try.ntmps6
  go_upto_region 5 with (first | (go_at_call 9; (with_reducible refine Calls.mono (known_any _) ?_); rintro e w1 ⟨rfl, hb1⟩) | (go_at_call 17; (with_reducible refine Calls.mono (hw4 _) ?_); rintro e w9 ⟨rfl, hw⟩; obtain rfl := hw.symm; clear hw) | (refine store_row0 28 (.tmp 5) (.tmp 13) (by rfl) (by rfl) (by rfl) w1.heap.size (mc m9 none 0 none 0) (by rfl) (by rfl) 28 (mc m0 none 0 none 0) ?hrow ?hi ?hold mc_one ?_; (case hrow => exact Row.new w1 28 _); (case hi => rw [mc_size rfl]; exact info28); (case hold => rw [mc_size rfl, mc_size rfl])))
  have hR := (Row.new w1 28 (mc m0 none 0 none 0)).setRow (mc m9 none 0 none 0)
  have hBW : Below w1.heap.size w1 ((w1.alloc (Obj.cells (mc m0 none 0 none 0) 28)).setRow w1.heap.size (mc m9 none 0 none 0)) := below_setRow ((Below.refl _ _).alloc (Nat.le_refl _) _) (Nat.le_refl _) _
  rw [lit0]
  generalize (w1.alloc (Obj.cells (mc m0 none 0 none 0) 28)).setRow w1.heap.size (mc m9 none 0 none 0) = W at *
  have hc37 : W.cell? ⟨w1.heap.size, 37, none⟩ = _ := hR.cell.trans (mc37 rfl)
  have hf37 := hR.frozen (j := 37)
  have hmk := fun W => make8 (5999 + r) (5999 + (r : Int)) (by omega) (by omega) W
  have hca : ∀ o, (W.alloc o).cell? ⟨w1.heap.size, 37, none⟩ = _ := fun o => (hR.alloc o).cell.trans (mc37 rfl)
  have hfa : ∀ o, (W.alloc o).frozen? ⟨w1.heap.size, 37, none⟩ = false := fun o => (hR.alloc o).frozen

  go_upto_region 19 with (first | (go_at_call 17; (with_reducible refine Calls.mono (hw6 _) ?_); rintro e w9 ⟨rfl, hw⟩; obtain rfl := hw.symm; clear hw))
  have hlt := hR.lt
  have hR2 := (hR.alloc (.cells (v8 (List.replicate (5999 + r) 0)) 5)).set0 37 (.slice (some ⟨W.heap.size, 0, none⟩) (5999 + r) (5999 + r))
  rw [mset37 rfl (List.replicate (5999 + r) 0) _ (by simp)] at hR2
  rw [hM] at hR2
  have hby : Bytes ((W.alloc (.cells (v8 (List.replicate (5999 + r) 0)) 5)).setCell ⟨w1.heap.size, 37, none⟩ (.slice (some ⟨W.heap.size, 0, none⟩) (5999 + r) (5999 + r))) (some ⟨W.heap.size, 0, none⟩) (List.replicate (5999 + r) 0) := Bytes.setOther (a := ⟨w1.heap.size, 37, none⟩) (bytes_new W 5 _) (show W.heap.size ≠ w1.heap.size by omega) _
  have hF2 : Fld ((W.alloc (.cells (v8 (List.replicate (5999 + r) 0)) 5)).setCell ⟨w1.heap.size, 37, none⟩ (.slice (some ⟨W.heap.size, 0, none⟩) (5999 + r) (5999 + r))) M2 none 0 (some ⟨W.heap.size, 0, none⟩) (5999 + r) := ⟨by rw [← hM]; rfl, by rw [← hM]; exact Ints.nil _ _, by rw [← hM]; exact hby, by rw [← hM]; exact Nat.le_refl 0, by rw [← hM]; simp, fun h => by cases h⟩
  have hB2 : Below w1.heap.size W ((W.alloc (.cells (v8 (List.replicate (5999 + r) 0)) 5)).setCell ⟨w1.heap.size, 37, none⟩ (.slice (some ⟨W.heap.size, 0, none⟩) (5999 + r) (5999 + r))) := Below.setCell (p := ⟨w1.heap.size, 37, none⟩) ((Below.refl w1.heap.size W).alloc (by omega) _) (Nat.le_refl w1.heap.size) _
  clear hR hmk hca hfa hby
  generalize (W.alloc (.cells (v8 (List.replicate (5999 + r) 0)) 5)).setCell ⟨w1.heap.size, 37, none⟩ (.slice (some ⟨W.heap.size, 0, none⟩) (5999 + r) (5999 + r)) = W2 at *
  go_wp2_with (first | (refine load_rowW ?hw 28 (.tmp 5) (by rfl) w1.heap.size (by rfl) 28 (mc M2 none 0 (some ⟨W.heap.size, 0, none⟩) (5999 + r)) (0, 0) _ hR2 Try.underlying28 rfl ?hi ?_; (case hw => rfl); (case hi => rw [mc_size hF2.key]; exact info28)) | (go_at_call 11; (with_reducible refine Calls.mono (henc _ _ _ _ _ hF2) ?_); rintro e w3 ⟨sp, cap, rfl, ho, hb⟩))
  go_ret
  exact ⟨rfl, hb1.trans ((hBW.trans hB2).mono hb1.size |>.trans (hb.mono (by have := hb1.size; have := hBW.size; have := hB2.size; omega)))⟩
set_option maxRecDepth 20000 in
set_option maxHeartbeats 1000000 in
theorem b3a (which n : Int) (r : Nat) (w : World) (hr : n % 4 = r) (h4 : r < 4) (hc : which % 6 = 3) (h1 : r ≤ 1) : Calls Try.prog 6 #[.int .i64 which, .int .i64 n] w fun e w' => e = .returned (.bool true) ∧ Below w.heap.size w w' := by
  have hw4 := fun w1 => within_any n 4 w1 (by decide) (by decide)
  have hw6 := fun w1 => within_any which 6 w1 (by decide) (by decide)
  rw [hr] at hw4
  rw [hc] at hw6
  clear hr hc
  have hE : encE { m9 with kind := 6, list := List.replicate (9 + r) 0 } = 0 := by
    rcases (by omega : r = 0 ∨ r = 1) with rfl | rfl
    all_goals rfl
  have henc := fun w2 lp dp lc dc h => encode_any { m9 with kind := 6, list := List.replicate (9 + r) 0 } lp dp lc dc w2 h (by simp; omega) (Nat.zero_le _)
  rw [hE] at henc
  clear hE
  generalize encB { m9 with kind := 6, list := List.replicate (9 + r) 0 } = xs at henc
  generalize hM : ({ m9 with kind := 6, list := List.replicate (9 + r) 0 } : M) = M2 at henc
  go_enter Try.func6, Try.ntmps6
  go_upto_region 5 with (first | (go_at_call 9; (with_reducible refine Calls.mono (known_any _) ?_); rintro e w1 ⟨rfl, hb1⟩) | (go_at_call 17; (with_reducible refine Calls.mono (hw4 _) ?_); rintro e w9 ⟨rfl, hw⟩; obtain rfl := hw.symm; clear hw) | (refine store_row0 28 (.tmp 5) (.tmp 13) (by rfl) (by rfl) (by rfl) w1.heap.size (mc m9 none 0 none 0) (by rfl) (by rfl) 28 (mc m0 none 0 none 0) ?hrow ?hi ?hold mc_one ?_; (case hrow => exact Row.new w1 28 _); (case hi => rw [mc_size rfl]; exact info28); (case hold => rw [mc_size rfl, mc_size rfl])))
  have hR := (Row.new w1 28 (mc m0 none 0 none 0)).setRow (mc m9 none 0 none 0)
  have hBW : Below w1.heap.size w1 ((w1.alloc (Obj.cells (mc m0 none 0 none 0) 28)).setRow w1.heap.size (mc m9 none 0 none 0)) := below_setRow ((Below.refl _ _).alloc (Nat.le_refl _) _) (Nat.le_refl _) _
  rw [lit0]
  generalize (w1.alloc (Obj.cells (mc m0 none 0 none 0) 28)).setRow w1.heap.size (mc m9 none 0 none 0) = W at *
  have hc0 : W.cell? ⟨w1.heap.size, 0, none⟩ = _ := hR.cell.trans mc0
  have hf0 := hR.frozen (j := 0)
  have hc3 : W.cell? ⟨w1.heap.size, 3, none⟩ = _ := hR.cell.trans mc3
  have hf3 := hR.frozen (j := 3)
  have hwr : IntKind.i64.wrap (9 + (r : Int)) = 9 + (r : Int) := by rw [IntKind.wrap_i64]; omega
  have hmk := fun W => makeI (9 + r) (9 + (r : Int)) (by omega) (by omega) W
  have hca : ∀ o, (W.alloc o).cell? ⟨w1.heap.size, 0, none⟩ = _ := fun o => (hR.alloc o).cell.trans mc0
  have hfa : ∀ o, (W.alloc o).frozen? ⟨w1.heap.size, 0, none⟩ = false := fun o => (hR.alloc o).frozen
  have hca3 : ∀ o, (W.alloc o).cell? ⟨w1.heap.size, 3, none⟩ = _ := fun o => (hR.alloc o).cell.trans mc3
  have hfa3 : ∀ o, (W.alloc o).frozen? ⟨w1.heap.size, 3, none⟩ = false := fun o => (hR.alloc o).frozen
  have hxa3 : ∀ o, ((W.setCell ⟨w1.heap.size, 0, none⟩ (.int .i64 6)).alloc o).cell? ⟨w1.heap.size, 3, none⟩ = some (.slice none 0 0) := fun o => by rw [((hR.set0 0 _).alloc o).cell, mset0]; exact mc3
  have hxf3 : ∀ o, ((W.setCell ⟨w1.heap.size, 0, none⟩ (.int .i64 6)).alloc o).frozen? ⟨w1.heap.size, 3, none⟩ = false := fun o => ((hR.set0 0 _).alloc o).frozen

  have hlt := hR.lt
  go_upto_region 14 with (first | (go_at_call 17; (with_reducible refine Calls.mono (hw6 _) ?_); rintro e w9 ⟨rfl, hw⟩; obtain rfl := hw.symm; clear hw))
  go_region_law (fail)
  all_goals
    go_upto_region 19 with (fail)
    have hR2 := ((hR.set0 0 (.int .i64 6)).set0 3 (.slice (some ⟨W.heap.size, 0, none⟩) (9 + r) (9 + r))).alloc (.cells (zi (9 + r)) 3)
    rw [mset0, mset3 (List.replicate (9 + r) 0) _ (by simp)] at hR2
    rw [hM] at hR2
    have hI : Ints (((W.setCell ⟨w1.heap.size, 0, none⟩ (.int .i64 6)).setCell ⟨w1.heap.size, 3, none⟩ (.slice (some ⟨W.heap.size, 0, none⟩) (9 + r) (9 + r))).alloc (.cells (zi (9 + r)) 3)) (some ⟨W.heap.size, 0, none⟩) (List.replicate (9 + r) 0) := ints_zi _ _ _ (by simp [World.setCell])
    have hF2 : Fld (((W.setCell ⟨w1.heap.size, 0, none⟩ (.int .i64 6)).setCell ⟨w1.heap.size, 3, none⟩ (.slice (some ⟨W.heap.size, 0, none⟩) (9 + r) (9 + r))).alloc (.cells (zi (9 + r)) 3)) M2 (some ⟨W.heap.size, 0, none⟩) (9 + r) none 0 := ⟨by rw [← hM]; rfl, by rw [← hM]; exact hI, by rw [← hM]; exact Bytes.nil _ _, by rw [← hM]; simp, by rw [← hM]; exact Nat.le_refl 0, fun _ => by rw [← hM]; exact ⟨rfl, rfl⟩⟩
    have hB2 : Below w1.heap.size W (((W.setCell ⟨w1.heap.size, 0, none⟩ (.int .i64 6)).setCell ⟨w1.heap.size, 3, none⟩ (.slice (some ⟨W.heap.size, 0, none⟩) (9 + r) (9 + r))).alloc (.cells (zi (9 + r)) 3)) := (Below.setCell (p := ⟨w1.heap.size, 3, none⟩) (Below.setCell (p := ⟨w1.heap.size, 0, none⟩) (Below.refl w1.heap.size W) (Nat.le_refl w1.heap.size) _) (Nat.le_refl w1.heap.size) _).alloc (by simp [World.setCell]; omega) _
    replace hR2 := hR2.drew
    replace hF2 := hF2.below ((Below.refl _ _).drew)
    replace hB2 := hB2.drew
    clear hR hmk hca hfa hca3 hfa3 hxa3 hxf3 hI hc0 hf0 hc3 hf3
    generalize (((W.setCell ⟨w1.heap.size, 0, none⟩ (.int .i64 6)).setCell ⟨w1.heap.size, 3, none⟩ (.slice (some ⟨W.heap.size, 0, none⟩) (9 + r) (9 + r))).alloc (.cells (zi (9 + r)) 3)).drew = W2 at *
    go_wp2_with (first | (refine load_rowW ?hw 28 (.tmp 5) (by rfl) w1.heap.size (by rfl) 28 (mc M2 (some ⟨W.heap.size, 0, none⟩) (9 + r) none 0) (0, 0) _ hR2 Try.underlying28 rfl ?hi ?_; (case hw => rfl); (case hi => rw [mc_size hF2.key]; exact info28)) | (go_at_call 11; (with_reducible refine Calls.mono (henc _ _ _ _ _ hF2) ?_); rintro e w3 ⟨sp, cap, rfl, ho, hb⟩))
    go_ret
    exact ⟨rfl, hb1.trans ((hBW.trans hB2).mono hb1.size |>.trans (hb.mono (by have := hb1.size; have := hBW.size; have := hB2.size; omega)))⟩
set_option maxRecDepth 20000 in
set_option maxHeartbeats 1000000 in
theorem b3b (which n : Int) (r : Nat) (w : World) (hr : n % 4 = r) (h4 : r < 4) (hc : which % 6 = 3) (h1 : 2 ≤ r) : Calls Try.prog 6 #[.int .i64 which, .int .i64 n] w fun e w' => e = .returned (.bool true) ∧ Below w.heap.size w w' := by
  have hw4 := fun w1 => within_any n 4 w1 (by decide) (by decide)
  have hw6 := fun w1 => within_any which 6 w1 (by decide) (by decide)
  rw [hr] at hw4
  rw [hc] at hw6
  clear hr hc
  have hE : encE { m9 with kind := 6, list := List.replicate (9 + r) 0 } = 4 := by
    rcases (by omega : r = 2 ∨ r = 3) with rfl | rfl
    all_goals rfl
  have henc := fun w2 lp dp lc dc h => encode_any { m9 with kind := 6, list := List.replicate (9 + r) 0 } lp dp lc dc w2 h (by simp; omega) (Nat.zero_le _)
  rw [hE] at henc
  clear hE
  generalize encB { m9 with kind := 6, list := List.replicate (9 + r) 0 } = xs at henc
  generalize hM : ({ m9 with kind := 6, list := List.replicate (9 + r) 0 } : M) = M2 at henc
  go_enter Try.func6, Try.ntmps6
  go_upto_region 5 with (first | (go_at_call 9; (with_reducible refine Calls.mono (known_any _) ?_); rintro e w1 ⟨rfl, hb1⟩) | (go_at_call 17; (with_reducible refine Calls.mono (hw4 _) ?_); rintro e w9 ⟨rfl, hw⟩; obtain rfl := hw.symm; clear hw) | (refine store_row0 28 (.tmp 5) (.tmp 13) (by rfl) (by rfl) (by rfl) w1.heap.size (mc m9 none 0 none 0) (by rfl) (by rfl) 28 (mc m0 none 0 none 0) ?hrow ?hi ?hold mc_one ?_; (case hrow => exact Row.new w1 28 _); (case hi => rw [mc_size rfl]; exact info28); (case hold => rw [mc_size rfl, mc_size rfl])))
  have hR := (Row.new w1 28 (mc m0 none 0 none 0)).setRow (mc m9 none 0 none 0)
  have hBW : Below w1.heap.size w1 ((w1.alloc (Obj.cells (mc m0 none 0 none 0) 28)).setRow w1.heap.size (mc m9 none 0 none 0)) := below_setRow ((Below.refl _ _).alloc (Nat.le_refl _) _) (Nat.le_refl _) _
  rw [lit0]
  generalize (w1.alloc (Obj.cells (mc m0 none 0 none 0) 28)).setRow w1.heap.size (mc m9 none 0 none 0) = W at *
  have hc0 : W.cell? ⟨w1.heap.size, 0, none⟩ = _ := hR.cell.trans mc0
  have hf0 := hR.frozen (j := 0)
  have hc3 : W.cell? ⟨w1.heap.size, 3, none⟩ = _ := hR.cell.trans mc3
  have hf3 := hR.frozen (j := 3)
  have hwr : IntKind.i64.wrap (9 + (r : Int)) = 9 + (r : Int) := by rw [IntKind.wrap_i64]; omega
  have hmk := fun W => makeI (9 + r) (9 + (r : Int)) (by omega) (by omega) W
  have hca : ∀ o, (W.alloc o).cell? ⟨w1.heap.size, 0, none⟩ = _ := fun o => (hR.alloc o).cell.trans mc0
  have hfa : ∀ o, (W.alloc o).frozen? ⟨w1.heap.size, 0, none⟩ = false := fun o => (hR.alloc o).frozen
  have hca3 : ∀ o, (W.alloc o).cell? ⟨w1.heap.size, 3, none⟩ = _ := fun o => (hR.alloc o).cell.trans mc3
  have hfa3 : ∀ o, (W.alloc o).frozen? ⟨w1.heap.size, 3, none⟩ = false := fun o => (hR.alloc o).frozen
  have hxa3 : ∀ o, ((W.setCell ⟨w1.heap.size, 0, none⟩ (.int .i64 6)).alloc o).cell? ⟨w1.heap.size, 3, none⟩ = some (.slice none 0 0) := fun o => by rw [((hR.set0 0 _).alloc o).cell, mset0]; exact mc3
  have hxf3 : ∀ o, ((W.setCell ⟨w1.heap.size, 0, none⟩ (.int .i64 6)).alloc o).frozen? ⟨w1.heap.size, 3, none⟩ = false := fun o => ((hR.set0 0 _).alloc o).frozen

  have hlt := hR.lt
  go_upto_region 14 with (first | (go_at_call 17; (with_reducible refine Calls.mono (hw6 _) ?_); rintro e w9 ⟨rfl, hw⟩; obtain rfl := hw.symm; clear hw))
  go_region_law (fail)
  all_goals
    go_upto_region 19 with (fail)
    have hR2 := ((hR.set0 0 (.int .i64 6)).set0 3 (.slice (some ⟨W.heap.size, 0, none⟩) (9 + r) (9 + r))).alloc (.cells (zi (9 + r)) 3)
    rw [mset0, mset3 (List.replicate (9 + r) 0) _ (by simp)] at hR2
    rw [hM] at hR2
    have hI : Ints (((W.setCell ⟨w1.heap.size, 0, none⟩ (.int .i64 6)).setCell ⟨w1.heap.size, 3, none⟩ (.slice (some ⟨W.heap.size, 0, none⟩) (9 + r) (9 + r))).alloc (.cells (zi (9 + r)) 3)) (some ⟨W.heap.size, 0, none⟩) (List.replicate (9 + r) 0) := ints_zi _ _ _ (by simp [World.setCell])
    have hF2 : Fld (((W.setCell ⟨w1.heap.size, 0, none⟩ (.int .i64 6)).setCell ⟨w1.heap.size, 3, none⟩ (.slice (some ⟨W.heap.size, 0, none⟩) (9 + r) (9 + r))).alloc (.cells (zi (9 + r)) 3)) M2 (some ⟨W.heap.size, 0, none⟩) (9 + r) none 0 := ⟨by rw [← hM]; rfl, by rw [← hM]; exact hI, by rw [← hM]; exact Bytes.nil _ _, by rw [← hM]; simp, by rw [← hM]; exact Nat.le_refl 0, fun _ => by rw [← hM]; exact ⟨rfl, rfl⟩⟩
    have hB2 : Below w1.heap.size W (((W.setCell ⟨w1.heap.size, 0, none⟩ (.int .i64 6)).setCell ⟨w1.heap.size, 3, none⟩ (.slice (some ⟨W.heap.size, 0, none⟩) (9 + r) (9 + r))).alloc (.cells (zi (9 + r)) 3)) := (Below.setCell (p := ⟨w1.heap.size, 3, none⟩) (Below.setCell (p := ⟨w1.heap.size, 0, none⟩) (Below.refl w1.heap.size W) (Nat.le_refl w1.heap.size) _) (Nat.le_refl w1.heap.size) _).alloc (by simp [World.setCell]; omega) _
    replace hR2 := hR2.drew
    replace hF2 := hF2.below ((Below.refl _ _).drew)
    replace hB2 := hB2.drew
    clear hR hmk hca hfa hca3 hfa3 hxa3 hxf3 hI hc0 hf0 hc3 hf3
    generalize (((W.setCell ⟨w1.heap.size, 0, none⟩ (.int .i64 6)).setCell ⟨w1.heap.size, 3, none⟩ (.slice (some ⟨W.heap.size, 0, none⟩) (9 + r) (9 + r))).alloc (.cells (zi (9 + r)) 3)).drew = W2 at *
    go_wp2_with (first | (refine load_rowW ?hw 28 (.tmp 5) (by rfl) w1.heap.size (by rfl) 28 (mc M2 (some ⟨W.heap.size, 0, none⟩) (9 + r) none 0) (0, 0) _ hR2 Try.underlying28 rfl ?hi ?_; (case hw => rfl); (case hi => rw [mc_size hF2.key]; exact info28)) | (go_at_call 11; (with_reducible refine Calls.mono (henc _ _ _ _ _ hF2) ?_); rintro e w3 ⟨sp, cap, rfl, ho, hb⟩))
    go_ret
    exact ⟨rfl, hb1.trans ((hBW.trans hB2).mono hb1.size |>.trans (hb.mono (by have := hb1.size; have := hBW.size; have := hB2.size; omega)))⟩
theorem bounds_law (which n : Int) (w : World) : Calls Try.prog 6 #[.int .i64 which, .int .i64 n] w fun e w' => e = .returned (.bool true) ∧ Below w.heap.size w w' := by
  have h0 := Int.emod_nonneg n (show (4 : Int) ≠ 0 by decide)
  have h1 := Int.emod_lt_of_pos n (show (0 : Int) < 4 by decide)
  have h2 := Int.emod_nonneg which (show (6 : Int) ≠ 0 by decide)
  have h3 := Int.emod_lt_of_pos which (show (0 : Int) < 6 by decide)
  obtain ⟨r, hr⟩ : ∃ r : Nat, n % 4 = r := ⟨(n % 4).toNat, by omega⟩
  have h4 : r < 4 := by omega
  by_cases hle : r ≤ 1
  · rcases (by omega : which % 6 = 0 ∨ which % 6 = 1 ∨ which % 6 = 2 ∨ which % 6 = 3 ∨ which % 6 = 4 ∨ which % 6 = 5) with hc | hc | hc | hc | hc | hc
    · exact b0a which n r w hr h4 hc hle
    · exact b1a which n r w hr h4 hc hle
    · exact b2a which n r w hr h4 hc hle
    · exact b3a which n r w hr h4 hc hle
    · exact b4a which n r w hr h4 hc hle
    · exact b5a which n r w hr h4 hc hle
  · rcases (by omega : which % 6 = 0 ∨ which % 6 = 1 ∨ which % 6 = 2 ∨ which % 6 = 3 ∨ which % 6 = 4 ∨ which % 6 = 5) with hc | hc | hc | hc | hc | hc
    · exact b0b which n r w hr h4 hc (by omega)
    · exact b1b which n r w hr h4 hc (by omega)
    · exact b2b which n r w hr h4 hc (by omega)
    · exact b3b which n r w hr h4 hc (by omega)
    · exact b4b which n r w hr h4 hc (by omega)
    · exact b5b which n r w hr h4 hc (by omega)
end Go.Proofs.Ytcdmjjlbeifgjaa
