/- WireBounds, some of its cases: it returns true and turns no old memory. -/
import Derived.Test.YtcdmjjlbeifgjaaLoad
namespace Go.Proofs.Ytcdmjjlbeifgjaa
open Go.RowKit

def m9 : M := ⟨9, 0, 0, [], false, List.replicate 32 0, [], 1, 0⟩
def m0 : M := ⟨0, 0, 0, [], false, List.replicate 32 0, [], 0, 0⟩
theorem lit9 : (#[.int .i64 9, .int .i64 0, .int .i64 0, .slice none 0 0, .bool false, .int .u8 0, .int .u8 0, .int .u8 0, .int .u8 0, .int .u8 0, .int .u8 0, .int .u8 0, .int .u8 0, .int .u8 0, .int .u8 0, .int .u8 0, .int .u8 0, .int .u8 0, .int .u8 0, .int .u8 0, .int .u8 0, .int .u8 0, .int .u8 0, .int .u8 0, .int .u8 0, .int .u8 0, .int .u8 0, .int .u8 0, .int .u8 0, .int .u8 0, .int .u8 0, .int .u8 0, .int .u8 0, .int .u8 0, .int .u8 0, .int .u8 0, .int .u8 0, .slice none 0 0, .int .i64 1, .int .i64 0] : Array Value) = mc m9 none 0 none 0 := rfl
theorem lit0 : (#[.int .i64 0, .int .i64 0, .int .i64 0, .slice none 0 0, .bool false, .int .u8 0, .int .u8 0, .int .u8 0, .int .u8 0, .int .u8 0, .int .u8 0, .int .u8 0, .int .u8 0, .int .u8 0, .int .u8 0, .int .u8 0, .int .u8 0, .int .u8 0, .int .u8 0, .int .u8 0, .int .u8 0, .int .u8 0, .int .u8 0, .int .u8 0, .int .u8 0, .int .u8 0, .int .u8 0, .int .u8 0, .int .u8 0, .int .u8 0, .int .u8 0, .int .u8 0, .int .u8 0, .int .u8 0, .int .u8 0, .int .u8 0, .int .u8 0, .slice none 0 0, .int .i64 0, .int .i64 0] : Array Value) = mc m0 none 0 none 0 := rfl

set_option maxRecDepth 20000 in
set_option maxHeartbeats 1000000 in
theorem b0a (which n : Int) (r : Nat) (w : World) (hr : n % 4 = r) (h4 : r < 4) (hc : which % 6 = 0) (h1 : r ≤ 1) : Calls Try.prog 6 #[.int .i64 which, .int .i64 n] w fun e w' => e = .returned (.bool true) ∧ Below w.heap.size w w' := by
  have hw4 := fun w1 => within_any n 4 w1 (by decide) (by decide)
  have hw6 := fun w1 => within_any which 6 w1 (by decide) (by decide)
  rw [hr] at hw4
  rw [hc] at hw6
  clear hr hc
  have hE : encE { m9 with lease := 999 + (r : Int) } = 0 := by
    rcases (by omega : r = 0 ∨ r = 1) with rfl | rfl
    all_goals rfl
  have henc := fun w2 lp dp lc dc h => encode_any { m9 with lease := 999 + (r : Int) } lp dp lc dc w2 h (Nat.zero_le _) (Nat.zero_le _)
  rw [hE] at henc
  clear hE
  generalize encB { m9 with lease := 999 + (r : Int) } = xs at henc
  generalize hM : ({ m9 with lease := 999 + (r : Int) } : M) = M2 at henc
  go_enter Try.func6, Try.ntmps6
  go_upto_region 5 with (first | (go_at_call 9; (with_reducible refine Calls.mono (known_any _) ?_); rintro e w1 ⟨rfl, hb1⟩) | (go_at_call 17; (with_reducible refine Calls.mono (hw4 _) ?_); rintro e w9 ⟨rfl, hw⟩; obtain rfl := hw.symm; clear hw) | (refine store_row0 28 (.tmp 5) (.tmp 13) (by rfl) (by rfl) (by rfl) w1.heap.size (mc m9 none 0 none 0) (by rfl) (by rfl) 28 (mc m0 none 0 none 0) ?hrow ?hi ?hold mc_one ?_; (case hrow => exact Row.new w1 28 _); (case hi => rw [mc_size rfl]; exact info28); (case hold => rw [mc_size rfl, mc_size rfl])))
  have hR := (Row.new w1 28 (mc m0 none 0 none 0)).setRow (mc m9 none 0 none 0)
  have hBW : Below w1.heap.size w1 ((w1.alloc (Obj.cells (mc m0 none 0 none 0) 28)).setRow w1.heap.size (mc m9 none 0 none 0)) := below_setRow ((Below.refl _ _).alloc (Nat.le_refl _) _) (Nat.le_refl _) _
  rw [lit0]
  generalize (w1.alloc (Obj.cells (mc m0 none 0 none 0) 28)).setRow w1.heap.size (mc m9 none 0 none 0) = W at *
  have hc38 : W.cell? ⟨w1.heap.size, 38, none⟩ = _ := hR.cell.trans (mc38 rfl)
  have hf38 := hR.frozen (j := 38)

  go_upto_region 19 with (first | (go_at_call 17; (with_reducible refine Calls.mono (hw6 _) ?_); rintro e w9 ⟨rfl, hw⟩; obtain rfl := hw.symm; clear hw))
  have hR2 := (hR.set0 38 (.int .i64 (999 + (r : Int))))
  rw [mset38 rfl] at hR2
  rw [hM] at hR2
  have hF2 : Fld (W.setCell ⟨w1.heap.size, 38, none⟩ (.int .i64 (999 + (r : Int)))) M2 none 0 none 0 := ⟨by rw [← hM]; rfl, by rw [← hM]; exact Ints.nil _ _, by rw [← hM]; exact Bytes.nil _ _, by rw [← hM]; exact Nat.le_refl 0, by rw [← hM]; exact Nat.le_refl 0, fun _ => by rw [← hM]; exact ⟨rfl, rfl⟩⟩
  have hB2 : Below w1.heap.size W (W.setCell ⟨w1.heap.size, 38, none⟩ (.int .i64 (999 + (r : Int)))) := (Below.setCell (p := ⟨w1.heap.size, 38, none⟩) (Below.refl w1.heap.size W) (Nat.le_refl w1.heap.size) _)
  clear hR
  generalize W.setCell ⟨w1.heap.size, 38, none⟩ (.int .i64 (999 + (r : Int))) = W2 at *
  go_wp2_with (first | (refine load_rowW ?hw 28 (.tmp 5) (by rfl) w1.heap.size (by rfl) 28 (mc M2 none 0 none 0) (0, 0) _ hR2 Try.underlying28 rfl ?hi ?_; (case hw => rfl); (case hi => rw [mc_size hF2.key]; exact info28)) | (go_at_call 11; (with_reducible refine Calls.mono (henc _ _ _ _ _ hF2) ?_); rintro e w3 ⟨sp, cap, rfl, ho, hb⟩))
  go_ret
  exact ⟨rfl, hb1.trans ((hBW.trans hB2).mono hb1.size |>.trans (hb.mono (by have := hb1.size; have := hBW.size; have := hB2.size; omega)))⟩
set_option maxRecDepth 20000 in
set_option maxHeartbeats 1000000 in
theorem b0b (which n : Int) (r : Nat) (w : World) (hr : n % 4 = r) (h4 : r < 4) (hc : which % 6 = 0) (h1 : 2 ≤ r) : Calls Try.prog 6 #[.int .i64 which, .int .i64 n] w fun e w' => e = .returned (.bool true) ∧ Below w.heap.size w w' := by
  have hw4 := fun w1 => within_any n 4 w1 (by decide) (by decide)
  have hw6 := fun w1 => within_any which 6 w1 (by decide) (by decide)
  rw [hr] at hw4
  rw [hc] at hw6
  clear hr hc
  have hE : encE { m9 with lease := 999 + (r : Int) } = 1 := by
    rcases (by omega : r = 2 ∨ r = 3) with rfl | rfl
    all_goals rfl
  have henc := fun w2 lp dp lc dc h => encode_any { m9 with lease := 999 + (r : Int) } lp dp lc dc w2 h (Nat.zero_le _) (Nat.zero_le _)
  rw [hE] at henc
  clear hE
  generalize encB { m9 with lease := 999 + (r : Int) } = xs at henc
  generalize hM : ({ m9 with lease := 999 + (r : Int) } : M) = M2 at henc
  go_enter Try.func6, Try.ntmps6
  go_upto_region 5 with (first | (go_at_call 9; (with_reducible refine Calls.mono (known_any _) ?_); rintro e w1 ⟨rfl, hb1⟩) | (go_at_call 17; (with_reducible refine Calls.mono (hw4 _) ?_); rintro e w9 ⟨rfl, hw⟩; obtain rfl := hw.symm; clear hw) | (refine store_row0 28 (.tmp 5) (.tmp 13) (by rfl) (by rfl) (by rfl) w1.heap.size (mc m9 none 0 none 0) (by rfl) (by rfl) 28 (mc m0 none 0 none 0) ?hrow ?hi ?hold mc_one ?_; (case hrow => exact Row.new w1 28 _); (case hi => rw [mc_size rfl]; exact info28); (case hold => rw [mc_size rfl, mc_size rfl])))
  have hR := (Row.new w1 28 (mc m0 none 0 none 0)).setRow (mc m9 none 0 none 0)
  have hBW : Below w1.heap.size w1 ((w1.alloc (Obj.cells (mc m0 none 0 none 0) 28)).setRow w1.heap.size (mc m9 none 0 none 0)) := below_setRow ((Below.refl _ _).alloc (Nat.le_refl _) _) (Nat.le_refl _) _
  rw [lit0]
  generalize (w1.alloc (Obj.cells (mc m0 none 0 none 0) 28)).setRow w1.heap.size (mc m9 none 0 none 0) = W at *
  have hc38 : W.cell? ⟨w1.heap.size, 38, none⟩ = _ := hR.cell.trans (mc38 rfl)
  have hf38 := hR.frozen (j := 38)

  go_upto_region 19 with (first | (go_at_call 17; (with_reducible refine Calls.mono (hw6 _) ?_); rintro e w9 ⟨rfl, hw⟩; obtain rfl := hw.symm; clear hw))
  have hR2 := (hR.set0 38 (.int .i64 (999 + (r : Int))))
  rw [mset38 rfl] at hR2
  rw [hM] at hR2
  have hF2 : Fld (W.setCell ⟨w1.heap.size, 38, none⟩ (.int .i64 (999 + (r : Int)))) M2 none 0 none 0 := ⟨by rw [← hM]; rfl, by rw [← hM]; exact Ints.nil _ _, by rw [← hM]; exact Bytes.nil _ _, by rw [← hM]; exact Nat.le_refl 0, by rw [← hM]; exact Nat.le_refl 0, fun _ => by rw [← hM]; exact ⟨rfl, rfl⟩⟩
  have hB2 : Below w1.heap.size W (W.setCell ⟨w1.heap.size, 38, none⟩ (.int .i64 (999 + (r : Int)))) := (Below.setCell (p := ⟨w1.heap.size, 38, none⟩) (Below.refl w1.heap.size W) (Nat.le_refl w1.heap.size) _)
  clear hR
  generalize W.setCell ⟨w1.heap.size, 38, none⟩ (.int .i64 (999 + (r : Int))) = W2 at *
  go_wp2_with (first | (refine load_rowW ?hw 28 (.tmp 5) (by rfl) w1.heap.size (by rfl) 28 (mc M2 none 0 none 0) (0, 0) _ hR2 Try.underlying28 rfl ?hi ?_; (case hw => rfl); (case hi => rw [mc_size hF2.key]; exact info28)) | (go_at_call 11; (with_reducible refine Calls.mono (henc _ _ _ _ _ hF2) ?_); rintro e w3 ⟨sp, cap, rfl, ho, hb⟩))
  go_ret
  exact ⟨rfl, hb1.trans ((hBW.trans hB2).mono hb1.size |>.trans (hb.mono (by have := hb1.size; have := hBW.size; have := hB2.size; omega)))⟩
set_option maxRecDepth 20000 in
set_option maxHeartbeats 1000000 in
theorem b1a (which n : Int) (r : Nat) (w : World) (hr : n % 4 = r) (h4 : r < 4) (hc : which % 6 = 1) (h1 : r ≤ 1) : Calls Try.prog 6 #[.int .i64 which, .int .i64 n] w fun e w' => e = .returned (.bool true) ∧ Below w.heap.size w w' := by
  have hw4 := fun w1 => within_any n 4 w1 (by decide) (by decide)
  have hw6 := fun w1 => within_any which 6 w1 (by decide) (by decide)
  rw [hr] at hw4
  rw [hc] at hw6
  clear hr hc
  have hE : encE { m9 with node := 8 + (r : Int) } = 0 := by
    rcases (by omega : r = 0 ∨ r = 1) with rfl | rfl
    all_goals rfl
  have henc := fun w2 lp dp lc dc h => encode_any { m9 with node := 8 + (r : Int) } lp dp lc dc w2 h (Nat.zero_le _) (Nat.zero_le _)
  rw [hE] at henc
  clear hE
  generalize encB { m9 with node := 8 + (r : Int) } = xs at henc
  generalize hM : ({ m9 with node := 8 + (r : Int) } : M) = M2 at henc
  go_enter Try.func6, Try.ntmps6
  go_upto_region 5 with (first | (go_at_call 9; (with_reducible refine Calls.mono (known_any _) ?_); rintro e w1 ⟨rfl, hb1⟩) | (go_at_call 17; (with_reducible refine Calls.mono (hw4 _) ?_); rintro e w9 ⟨rfl, hw⟩; obtain rfl := hw.symm; clear hw) | (refine store_row0 28 (.tmp 5) (.tmp 13) (by rfl) (by rfl) (by rfl) w1.heap.size (mc m9 none 0 none 0) (by rfl) (by rfl) 28 (mc m0 none 0 none 0) ?hrow ?hi ?hold mc_one ?_; (case hrow => exact Row.new w1 28 _); (case hi => rw [mc_size rfl]; exact info28); (case hold => rw [mc_size rfl, mc_size rfl])))
  have hR := (Row.new w1 28 (mc m0 none 0 none 0)).setRow (mc m9 none 0 none 0)
  have hBW : Below w1.heap.size w1 ((w1.alloc (Obj.cells (mc m0 none 0 none 0) 28)).setRow w1.heap.size (mc m9 none 0 none 0)) := below_setRow ((Below.refl _ _).alloc (Nat.le_refl _) _) (Nat.le_refl _) _
  rw [lit0]
  generalize (w1.alloc (Obj.cells (mc m0 none 0 none 0) 28)).setRow w1.heap.size (mc m9 none 0 none 0) = W at *
  have hc1 : W.cell? ⟨w1.heap.size, 1, none⟩ = _ := hR.cell.trans mc1
  have hf1 := hR.frozen (j := 1)

  go_upto_region 19 with (first | (go_at_call 17; (with_reducible refine Calls.mono (hw6 _) ?_); rintro e w9 ⟨rfl, hw⟩; obtain rfl := hw.symm; clear hw))
  have hR2 := (hR.set0 1 (.int .i64 (8 + (r : Int))))
  rw [mset1] at hR2
  rw [hM] at hR2
  have hF2 : Fld (W.setCell ⟨w1.heap.size, 1, none⟩ (.int .i64 (8 + (r : Int)))) M2 none 0 none 0 := ⟨by rw [← hM]; rfl, by rw [← hM]; exact Ints.nil _ _, by rw [← hM]; exact Bytes.nil _ _, by rw [← hM]; exact Nat.le_refl 0, by rw [← hM]; exact Nat.le_refl 0, fun _ => by rw [← hM]; exact ⟨rfl, rfl⟩⟩
  have hB2 : Below w1.heap.size W (W.setCell ⟨w1.heap.size, 1, none⟩ (.int .i64 (8 + (r : Int)))) := (Below.setCell (p := ⟨w1.heap.size, 1, none⟩) (Below.refl w1.heap.size W) (Nat.le_refl w1.heap.size) _)
  clear hR
  generalize W.setCell ⟨w1.heap.size, 1, none⟩ (.int .i64 (8 + (r : Int))) = W2 at *
  go_wp2_with (first | (refine load_rowW ?hw 28 (.tmp 5) (by rfl) w1.heap.size (by rfl) 28 (mc M2 none 0 none 0) (0, 0) _ hR2 Try.underlying28 rfl ?hi ?_; (case hw => rfl); (case hi => rw [mc_size hF2.key]; exact info28)) | (go_at_call 11; (with_reducible refine Calls.mono (henc _ _ _ _ _ hF2) ?_); rintro e w3 ⟨sp, cap, rfl, ho, hb⟩))
  go_ret
  exact ⟨rfl, hb1.trans ((hBW.trans hB2).mono hb1.size |>.trans (hb.mono (by have := hb1.size; have := hBW.size; have := hB2.size; omega)))⟩
set_option maxRecDepth 20000 in
set_option maxHeartbeats 1000000 in
theorem b1b (which n : Int) (r : Nat) (w : World) (hr : n % 4 = r) (h4 : r < 4) (hc : which % 6 = 1) (h1 : 2 ≤ r) : Calls Try.prog 6 #[.int .i64 which, .int .i64 n] w fun e w' => e = .returned (.bool true) ∧ Below w.heap.size w w' := by
  have hw4 := fun w1 => within_any n 4 w1 (by decide) (by decide)
  have hw6 := fun w1 => within_any which 6 w1 (by decide) (by decide)
  rw [hr] at hw4
  rw [hc] at hw6
  clear hr hc
  have hE : encE { m9 with node := 8 + (r : Int) } = 1 := by
    rcases (by omega : r = 2 ∨ r = 3) with rfl | rfl
    all_goals rfl
  have henc := fun w2 lp dp lc dc h => encode_any { m9 with node := 8 + (r : Int) } lp dp lc dc w2 h (Nat.zero_le _) (Nat.zero_le _)
  rw [hE] at henc
  clear hE
  generalize encB { m9 with node := 8 + (r : Int) } = xs at henc
  generalize hM : ({ m9 with node := 8 + (r : Int) } : M) = M2 at henc
  go_enter Try.func6, Try.ntmps6
  go_upto_region 5 with (first | (go_at_call 9; (with_reducible refine Calls.mono (known_any _) ?_); rintro e w1 ⟨rfl, hb1⟩) | (go_at_call 17; (with_reducible refine Calls.mono (hw4 _) ?_); rintro e w9 ⟨rfl, hw⟩; obtain rfl := hw.symm; clear hw) | (refine store_row0 28 (.tmp 5) (.tmp 13) (by rfl) (by rfl) (by rfl) w1.heap.size (mc m9 none 0 none 0) (by rfl) (by rfl) 28 (mc m0 none 0 none 0) ?hrow ?hi ?hold mc_one ?_; (case hrow => exact Row.new w1 28 _); (case hi => rw [mc_size rfl]; exact info28); (case hold => rw [mc_size rfl, mc_size rfl])))
  have hR := (Row.new w1 28 (mc m0 none 0 none 0)).setRow (mc m9 none 0 none 0)
  have hBW : Below w1.heap.size w1 ((w1.alloc (Obj.cells (mc m0 none 0 none 0) 28)).setRow w1.heap.size (mc m9 none 0 none 0)) := below_setRow ((Below.refl _ _).alloc (Nat.le_refl _) _) (Nat.le_refl _) _
  rw [lit0]
  generalize (w1.alloc (Obj.cells (mc m0 none 0 none 0) 28)).setRow w1.heap.size (mc m9 none 0 none 0) = W at *
  have hc1 : W.cell? ⟨w1.heap.size, 1, none⟩ = _ := hR.cell.trans mc1
  have hf1 := hR.frozen (j := 1)

  go_upto_region 19 with (first | (go_at_call 17; (with_reducible refine Calls.mono (hw6 _) ?_); rintro e w9 ⟨rfl, hw⟩; obtain rfl := hw.symm; clear hw))
  have hR2 := (hR.set0 1 (.int .i64 (8 + (r : Int))))
  rw [mset1] at hR2
  rw [hM] at hR2
  have hF2 : Fld (W.setCell ⟨w1.heap.size, 1, none⟩ (.int .i64 (8 + (r : Int)))) M2 none 0 none 0 := ⟨by rw [← hM]; rfl, by rw [← hM]; exact Ints.nil _ _, by rw [← hM]; exact Bytes.nil _ _, by rw [← hM]; exact Nat.le_refl 0, by rw [← hM]; exact Nat.le_refl 0, fun _ => by rw [← hM]; exact ⟨rfl, rfl⟩⟩
  have hB2 : Below w1.heap.size W (W.setCell ⟨w1.heap.size, 1, none⟩ (.int .i64 (8 + (r : Int)))) := (Below.setCell (p := ⟨w1.heap.size, 1, none⟩) (Below.refl w1.heap.size W) (Nat.le_refl w1.heap.size) _)
  clear hR
  generalize W.setCell ⟨w1.heap.size, 1, none⟩ (.int .i64 (8 + (r : Int))) = W2 at *
  go_wp2_with (first | (refine load_rowW ?hw 28 (.tmp 5) (by rfl) w1.heap.size (by rfl) 28 (mc M2 none 0 none 0) (0, 0) _ hR2 Try.underlying28 rfl ?hi ?_; (case hw => rfl); (case hi => rw [mc_size hF2.key]; exact info28)) | (go_at_call 11; (with_reducible refine Calls.mono (henc _ _ _ _ _ hF2) ?_); rintro e w3 ⟨sp, cap, rfl, ho, hb⟩))
  go_ret
  exact ⟨rfl, hb1.trans ((hBW.trans hB2).mono hb1.size |>.trans (hb.mono (by have := hb1.size; have := hBW.size; have := hB2.size; omega)))⟩
set_option maxRecDepth 20000 in
set_option maxHeartbeats 1000000 in
theorem b4a (which n : Int) (r : Nat) (w : World) (hr : n % 4 = r) (h4 : r < 4) (hc : which % 6 = 4) (h1 : r ≤ 1) : Calls Try.prog 6 #[.int .i64 which, .int .i64 n] w fun e w' => e = .returned (.bool true) ∧ Below w.heap.size w w' := by
  have hw4 := fun w1 => within_any n 4 w1 (by decide) (by decide)
  have hw6 := fun w1 => within_any which 6 w1 (by decide) (by decide)
  rw [hr] at hw4
  rw [hc] at hw6
  clear hr hc
  have hE : encE { m9 with kind := 4, err := 19 + (r : Int) } = 0 := by
    rcases (by omega : r = 0 ∨ r = 1) with rfl | rfl
    all_goals rfl
  have henc := fun w2 lp dp lc dc h => encode_any { m9 with kind := 4, err := 19 + (r : Int) } lp dp lc dc w2 h (Nat.zero_le _) (Nat.zero_le _)
  rw [hE] at henc
  clear hE
  generalize encB { m9 with kind := 4, err := 19 + (r : Int) } = xs at henc
  generalize hM : ({ m9 with kind := 4, err := 19 + (r : Int) } : M) = M2 at henc
  go_enter Try.func6, Try.ntmps6
  go_upto_region 5 with (first | (go_at_call 9; (with_reducible refine Calls.mono (known_any _) ?_); rintro e w1 ⟨rfl, hb1⟩) | (go_at_call 17; (with_reducible refine Calls.mono (hw4 _) ?_); rintro e w9 ⟨rfl, hw⟩; obtain rfl := hw.symm; clear hw) | (refine store_row0 28 (.tmp 5) (.tmp 13) (by rfl) (by rfl) (by rfl) w1.heap.size (mc m9 none 0 none 0) (by rfl) (by rfl) 28 (mc m0 none 0 none 0) ?hrow ?hi ?hold mc_one ?_; (case hrow => exact Row.new w1 28 _); (case hi => rw [mc_size rfl]; exact info28); (case hold => rw [mc_size rfl, mc_size rfl])))
  have hR := (Row.new w1 28 (mc m0 none 0 none 0)).setRow (mc m9 none 0 none 0)
  have hBW : Below w1.heap.size w1 ((w1.alloc (Obj.cells (mc m0 none 0 none 0) 28)).setRow w1.heap.size (mc m9 none 0 none 0)) := below_setRow ((Below.refl _ _).alloc (Nat.le_refl _) _) (Nat.le_refl _) _
  rw [lit0]
  generalize (w1.alloc (Obj.cells (mc m0 none 0 none 0) 28)).setRow w1.heap.size (mc m9 none 0 none 0) = W at *
  have hc0 : W.cell? ⟨w1.heap.size, 0, none⟩ = _ := hR.cell.trans mc0
  have hf0 := hR.frozen (j := 0)
  have hc39 : W.cell? ⟨w1.heap.size, 39, none⟩ = _ := hR.cell.trans (mc39 rfl)
  have hf39 := hR.frozen (j := 39)

  go_upto_region 19 with (first | (go_at_call 17; (with_reducible refine Calls.mono (hw6 _) ?_); rintro e w9 ⟨rfl, hw⟩; obtain rfl := hw.symm; clear hw))
  have hR2 := ((hR.set0 0 (.int .i64 4)).set0 39 (.int .i64 (19 + (r : Int))))
  rw [mset0, mset39 rfl] at hR2
  rw [hM] at hR2
  have hF2 : Fld ((W.setCell ⟨w1.heap.size, 0, none⟩ (.int .i64 4)).setCell ⟨w1.heap.size, 39, none⟩ (.int .i64 (19 + (r : Int)))) M2 none 0 none 0 := ⟨by rw [← hM]; rfl, by rw [← hM]; exact Ints.nil _ _, by rw [← hM]; exact Bytes.nil _ _, by rw [← hM]; exact Nat.le_refl 0, by rw [← hM]; exact Nat.le_refl 0, fun _ => by rw [← hM]; exact ⟨rfl, rfl⟩⟩
  have hB2 : Below w1.heap.size W ((W.setCell ⟨w1.heap.size, 0, none⟩ (.int .i64 4)).setCell ⟨w1.heap.size, 39, none⟩ (.int .i64 (19 + (r : Int)))) := (Below.setCell (p := ⟨w1.heap.size, 39, none⟩) (Below.setCell (p := ⟨w1.heap.size, 0, none⟩) (Below.refl w1.heap.size W) (Nat.le_refl w1.heap.size) _) (Nat.le_refl w1.heap.size) _)
  clear hR
  generalize (W.setCell ⟨w1.heap.size, 0, none⟩ (.int .i64 4)).setCell ⟨w1.heap.size, 39, none⟩ (.int .i64 (19 + (r : Int))) = W2 at *
  go_wp2_with (first | (refine load_rowW ?hw 28 (.tmp 5) (by rfl) w1.heap.size (by rfl) 28 (mc M2 none 0 none 0) (0, 0) _ hR2 Try.underlying28 rfl ?hi ?_; (case hw => rfl); (case hi => rw [mc_size hF2.key]; exact info28)) | (go_at_call 11; (with_reducible refine Calls.mono (henc _ _ _ _ _ hF2) ?_); rintro e w3 ⟨sp, cap, rfl, ho, hb⟩))
  go_ret
  exact ⟨rfl, hb1.trans ((hBW.trans hB2).mono hb1.size |>.trans (hb.mono (by have := hb1.size; have := hBW.size; have := hB2.size; omega)))⟩
set_option maxRecDepth 20000 in
set_option maxHeartbeats 1000000 in
theorem b4b (which n : Int) (r : Nat) (w : World) (hr : n % 4 = r) (h4 : r < 4) (hc : which % 6 = 4) (h1 : 2 ≤ r) : Calls Try.prog 6 #[.int .i64 which, .int .i64 n] w fun e w' => e = .returned (.bool true) ∧ Below w.heap.size w w' := by
  have hw4 := fun w1 => within_any n 4 w1 (by decide) (by decide)
  have hw6 := fun w1 => within_any which 6 w1 (by decide) (by decide)
  rw [hr] at hw4
  rw [hc] at hw6
  clear hr hc
  have hE : encE { m9 with kind := 4, err := 19 + (r : Int) } = 1 := by
    rcases (by omega : r = 2 ∨ r = 3) with rfl | rfl
    all_goals rfl
  have henc := fun w2 lp dp lc dc h => encode_any { m9 with kind := 4, err := 19 + (r : Int) } lp dp lc dc w2 h (Nat.zero_le _) (Nat.zero_le _)
  rw [hE] at henc
  clear hE
  generalize encB { m9 with kind := 4, err := 19 + (r : Int) } = xs at henc
  generalize hM : ({ m9 with kind := 4, err := 19 + (r : Int) } : M) = M2 at henc
  go_enter Try.func6, Try.ntmps6
  go_upto_region 5 with (first | (go_at_call 9; (with_reducible refine Calls.mono (known_any _) ?_); rintro e w1 ⟨rfl, hb1⟩) | (go_at_call 17; (with_reducible refine Calls.mono (hw4 _) ?_); rintro e w9 ⟨rfl, hw⟩; obtain rfl := hw.symm; clear hw) | (refine store_row0 28 (.tmp 5) (.tmp 13) (by rfl) (by rfl) (by rfl) w1.heap.size (mc m9 none 0 none 0) (by rfl) (by rfl) 28 (mc m0 none 0 none 0) ?hrow ?hi ?hold mc_one ?_; (case hrow => exact Row.new w1 28 _); (case hi => rw [mc_size rfl]; exact info28); (case hold => rw [mc_size rfl, mc_size rfl])))
  have hR := (Row.new w1 28 (mc m0 none 0 none 0)).setRow (mc m9 none 0 none 0)
  have hBW : Below w1.heap.size w1 ((w1.alloc (Obj.cells (mc m0 none 0 none 0) 28)).setRow w1.heap.size (mc m9 none 0 none 0)) := below_setRow ((Below.refl _ _).alloc (Nat.le_refl _) _) (Nat.le_refl _) _
  rw [lit0]
  generalize (w1.alloc (Obj.cells (mc m0 none 0 none 0) 28)).setRow w1.heap.size (mc m9 none 0 none 0) = W at *
  have hc0 : W.cell? ⟨w1.heap.size, 0, none⟩ = _ := hR.cell.trans mc0
  have hf0 := hR.frozen (j := 0)
  have hc39 : W.cell? ⟨w1.heap.size, 39, none⟩ = _ := hR.cell.trans (mc39 rfl)
  have hf39 := hR.frozen (j := 39)

  go_upto_region 19 with (first | (go_at_call 17; (with_reducible refine Calls.mono (hw6 _) ?_); rintro e w9 ⟨rfl, hw⟩; obtain rfl := hw.symm; clear hw))
  have hR2 := ((hR.set0 0 (.int .i64 4)).set0 39 (.int .i64 (19 + (r : Int))))
  rw [mset0, mset39 rfl] at hR2
  rw [hM] at hR2
  have hF2 : Fld ((W.setCell ⟨w1.heap.size, 0, none⟩ (.int .i64 4)).setCell ⟨w1.heap.size, 39, none⟩ (.int .i64 (19 + (r : Int)))) M2 none 0 none 0 := ⟨by rw [← hM]; rfl, by rw [← hM]; exact Ints.nil _ _, by rw [← hM]; exact Bytes.nil _ _, by rw [← hM]; exact Nat.le_refl 0, by rw [← hM]; exact Nat.le_refl 0, fun _ => by rw [← hM]; exact ⟨rfl, rfl⟩⟩
  have hB2 : Below w1.heap.size W ((W.setCell ⟨w1.heap.size, 0, none⟩ (.int .i64 4)).setCell ⟨w1.heap.size, 39, none⟩ (.int .i64 (19 + (r : Int)))) := (Below.setCell (p := ⟨w1.heap.size, 39, none⟩) (Below.setCell (p := ⟨w1.heap.size, 0, none⟩) (Below.refl w1.heap.size W) (Nat.le_refl w1.heap.size) _) (Nat.le_refl w1.heap.size) _)
  clear hR
  generalize (W.setCell ⟨w1.heap.size, 0, none⟩ (.int .i64 4)).setCell ⟨w1.heap.size, 39, none⟩ (.int .i64 (19 + (r : Int))) = W2 at *
  go_wp2_with (first | (refine load_rowW ?hw 28 (.tmp 5) (by rfl) w1.heap.size (by rfl) 28 (mc M2 none 0 none 0) (0, 0) _ hR2 Try.underlying28 rfl ?hi ?_; (case hw => rfl); (case hi => rw [mc_size hF2.key]; exact info28)) | (go_at_call 11; (with_reducible refine Calls.mono (henc _ _ _ _ _ hF2) ?_); rintro e w3 ⟨sp, cap, rfl, ho, hb⟩))
  go_ret
  exact ⟨rfl, hb1.trans ((hBW.trans hB2).mono hb1.size |>.trans (hb.mono (by have := hb1.size; have := hBW.size; have := hB2.size; omega)))⟩
set_option maxRecDepth 20000 in
set_option maxHeartbeats 1000000 in
theorem b5a (which n : Int) (r : Nat) (w : World) (hr : n % 4 = r) (h4 : r < 4) (hc : which % 6 = 5) (h1 : r ≤ 1) : Calls Try.prog 6 #[.int .i64 which, .int .i64 n] w fun e w' => e = .returned (.bool true) ∧ Below w.heap.size w w' := by
  have hw4 := fun w1 => within_any n 4 w1 (by decide) (by decide)
  have hw6 := fun w1 => within_any which 6 w1 (by decide) (by decide)
  rw [hr] at hw4
  rw [hc] at hw6
  clear hr hc
  have hE : encE { m9 with kind := 11 + (r : Int) } = 0 := by
    rcases (by omega : r = 0 ∨ r = 1) with rfl | rfl
    all_goals rfl
  have henc := fun w2 lp dp lc dc h => encode_any { m9 with kind := 11 + (r : Int) } lp dp lc dc w2 h (Nat.zero_le _) (Nat.zero_le _)
  rw [hE] at henc
  clear hE
  generalize encB { m9 with kind := 11 + (r : Int) } = xs at henc
  generalize hM : ({ m9 with kind := 11 + (r : Int) } : M) = M2 at henc
  go_enter Try.func6, Try.ntmps6
  go_upto_region 5 with (first | (go_at_call 9; (with_reducible refine Calls.mono (known_any _) ?_); rintro e w1 ⟨rfl, hb1⟩) | (go_at_call 17; (with_reducible refine Calls.mono (hw4 _) ?_); rintro e w9 ⟨rfl, hw⟩; obtain rfl := hw.symm; clear hw) | (refine store_row0 28 (.tmp 5) (.tmp 13) (by rfl) (by rfl) (by rfl) w1.heap.size (mc m9 none 0 none 0) (by rfl) (by rfl) 28 (mc m0 none 0 none 0) ?hrow ?hi ?hold mc_one ?_; (case hrow => exact Row.new w1 28 _); (case hi => rw [mc_size rfl]; exact info28); (case hold => rw [mc_size rfl, mc_size rfl])))
  have hR := (Row.new w1 28 (mc m0 none 0 none 0)).setRow (mc m9 none 0 none 0)
  have hBW : Below w1.heap.size w1 ((w1.alloc (Obj.cells (mc m0 none 0 none 0) 28)).setRow w1.heap.size (mc m9 none 0 none 0)) := below_setRow ((Below.refl _ _).alloc (Nat.le_refl _) _) (Nat.le_refl _) _
  rw [lit0]
  generalize (w1.alloc (Obj.cells (mc m0 none 0 none 0) 28)).setRow w1.heap.size (mc m9 none 0 none 0) = W at *
  have hc0 : W.cell? ⟨w1.heap.size, 0, none⟩ = _ := hR.cell.trans mc0
  have hf0 := hR.frozen (j := 0)

  go_upto_region 19 with (first | (go_at_call 17; (with_reducible refine Calls.mono (hw6 _) ?_); rintro e w9 ⟨rfl, hw⟩; obtain rfl := hw.symm; clear hw))
  have hR2 := (hR.set0 0 (.int .i64 (11 + (r : Int))))
  rw [mset0] at hR2
  rw [hM] at hR2
  have hF2 : Fld (W.setCell ⟨w1.heap.size, 0, none⟩ (.int .i64 (11 + (r : Int)))) M2 none 0 none 0 := ⟨by rw [← hM]; rfl, by rw [← hM]; exact Ints.nil _ _, by rw [← hM]; exact Bytes.nil _ _, by rw [← hM]; exact Nat.le_refl 0, by rw [← hM]; exact Nat.le_refl 0, fun _ => by rw [← hM]; exact ⟨rfl, rfl⟩⟩
  have hB2 : Below w1.heap.size W (W.setCell ⟨w1.heap.size, 0, none⟩ (.int .i64 (11 + (r : Int)))) := (Below.setCell (p := ⟨w1.heap.size, 0, none⟩) (Below.refl w1.heap.size W) (Nat.le_refl w1.heap.size) _)
  clear hR
  generalize W.setCell ⟨w1.heap.size, 0, none⟩ (.int .i64 (11 + (r : Int))) = W2 at *
  go_wp2_with (first | (refine load_rowW ?hw 28 (.tmp 5) (by rfl) w1.heap.size (by rfl) 28 (mc M2 none 0 none 0) (0, 0) _ hR2 Try.underlying28 rfl ?hi ?_; (case hw => rfl); (case hi => rw [mc_size hF2.key]; exact info28)) | (go_at_call 11; (with_reducible refine Calls.mono (henc _ _ _ _ _ hF2) ?_); rintro e w3 ⟨sp, cap, rfl, ho, hb⟩))
  go_ret
  exact ⟨rfl, hb1.trans ((hBW.trans hB2).mono hb1.size |>.trans (hb.mono (by have := hb1.size; have := hBW.size; have := hB2.size; omega)))⟩
set_option maxRecDepth 20000 in
set_option maxHeartbeats 1000000 in
theorem b5b (which n : Int) (r : Nat) (w : World) (hr : n % 4 = r) (h4 : r < 4) (hc : which % 6 = 5) (h1 : 2 ≤ r) : Calls Try.prog 6 #[.int .i64 which, .int .i64 n] w fun e w' => e = .returned (.bool true) ∧ Below w.heap.size w w' := by
  have hw4 := fun w1 => within_any n 4 w1 (by decide) (by decide)
  have hw6 := fun w1 => within_any which 6 w1 (by decide) (by decide)
  rw [hr] at hw4
  rw [hc] at hw6
  clear hr hc
  have hE : encE { m9 with kind := 11 + (r : Int) } = 3 := by
    rcases (by omega : r = 2 ∨ r = 3) with rfl | rfl
    all_goals rfl
  have henc := fun w2 lp dp lc dc h => encode_any { m9 with kind := 11 + (r : Int) } lp dp lc dc w2 h (Nat.zero_le _) (Nat.zero_le _)
  rw [hE] at henc
  clear hE
  generalize encB { m9 with kind := 11 + (r : Int) } = xs at henc
  generalize hM : ({ m9 with kind := 11 + (r : Int) } : M) = M2 at henc
  go_enter Try.func6, Try.ntmps6
  go_upto_region 5 with (first | (go_at_call 9; (with_reducible refine Calls.mono (known_any _) ?_); rintro e w1 ⟨rfl, hb1⟩) | (go_at_call 17; (with_reducible refine Calls.mono (hw4 _) ?_); rintro e w9 ⟨rfl, hw⟩; obtain rfl := hw.symm; clear hw) | (refine store_row0 28 (.tmp 5) (.tmp 13) (by rfl) (by rfl) (by rfl) w1.heap.size (mc m9 none 0 none 0) (by rfl) (by rfl) 28 (mc m0 none 0 none 0) ?hrow ?hi ?hold mc_one ?_; (case hrow => exact Row.new w1 28 _); (case hi => rw [mc_size rfl]; exact info28); (case hold => rw [mc_size rfl, mc_size rfl])))
  have hR := (Row.new w1 28 (mc m0 none 0 none 0)).setRow (mc m9 none 0 none 0)
  have hBW : Below w1.heap.size w1 ((w1.alloc (Obj.cells (mc m0 none 0 none 0) 28)).setRow w1.heap.size (mc m9 none 0 none 0)) := below_setRow ((Below.refl _ _).alloc (Nat.le_refl _) _) (Nat.le_refl _) _
  rw [lit0]
  generalize (w1.alloc (Obj.cells (mc m0 none 0 none 0) 28)).setRow w1.heap.size (mc m9 none 0 none 0) = W at *
  have hc0 : W.cell? ⟨w1.heap.size, 0, none⟩ = _ := hR.cell.trans mc0
  have hf0 := hR.frozen (j := 0)

  go_upto_region 19 with (first | (go_at_call 17; (with_reducible refine Calls.mono (hw6 _) ?_); rintro e w9 ⟨rfl, hw⟩; obtain rfl := hw.symm; clear hw))
  have hR2 := (hR.set0 0 (.int .i64 (11 + (r : Int))))
  rw [mset0] at hR2
  rw [hM] at hR2
  have hF2 : Fld (W.setCell ⟨w1.heap.size, 0, none⟩ (.int .i64 (11 + (r : Int)))) M2 none 0 none 0 := ⟨by rw [← hM]; rfl, by rw [← hM]; exact Ints.nil _ _, by rw [← hM]; exact Bytes.nil _ _, by rw [← hM]; exact Nat.le_refl 0, by rw [← hM]; exact Nat.le_refl 0, fun _ => by rw [← hM]; exact ⟨rfl, rfl⟩⟩
  have hB2 : Below w1.heap.size W (W.setCell ⟨w1.heap.size, 0, none⟩ (.int .i64 (11 + (r : Int)))) := (Below.setCell (p := ⟨w1.heap.size, 0, none⟩) (Below.refl w1.heap.size W) (Nat.le_refl w1.heap.size) _)
  clear hR
  generalize W.setCell ⟨w1.heap.size, 0, none⟩ (.int .i64 (11 + (r : Int))) = W2 at *
  go_wp2_with (first | (refine load_rowW ?hw 28 (.tmp 5) (by rfl) w1.heap.size (by rfl) 28 (mc M2 none 0 none 0) (0, 0) _ hR2 Try.underlying28 rfl ?hi ?_; (case hw => rfl); (case hi => rw [mc_size hF2.key]; exact info28)) | (go_at_call 11; (with_reducible refine Calls.mono (henc _ _ _ _ _ hF2) ?_); rintro e w3 ⟨sp, cap, rfl, ho, hb⟩))
  go_ret
  exact ⟨rfl, hb1.trans ((hBW.trans hB2).mono hb1.size |>.trans (hb.mono (by have := hb1.size; have := hBW.size; have := hB2.size; omega)))⟩
end Go.Proofs.Ytcdmjjlbeifgjaa
