/- The text of an id: Text answers the 64 hexadecimal digits, and turns no old memory; for every 32 bytes. -/
import Derived.Test.YtjefmnoffekeoaaDoorSum
namespace Go.Proofs.YtjefmnoffekeoaaDoor
open Go.RowKit

def hexs : List Int := [48, 49, 50, 51, 52, 53, 54, 55, 56, 57, 97, 98, 99, 100, 101, 102]
def hexd (y : Int) : Int := gi hexs y.toNat
def textN (l : List Int) : Nat → List Int
  | 0 => List.replicate 64 0
  | k + 1 => ((textN l k).set (2 * k) (hexd (gi l k / 16))).set (2 * k + 1) (hexd (gi l k % 16))
def textS (l : List Int) : List Int := textN l 32
theorem textN_length (l : List Int) : ∀ k, (textN l k).length = 64
  | 0 => by simp [textN]
  | k + 1 => by rw [textN, List.length_set, List.length_set, textN_length l k]
def In8 (l : List Int) : Prop := ∀ j, 0 ≤ gi l j ∧ gi l j < 256

theorem hex_index (y : Int) (h0 : 0 ≤ y) (h1 : y < 16) (w : World) : (Instr.index 9 (.string ⟨#[48, 49, 50, 51, 52, 53, 54, 55, 56, 57, 97, 98, 99, 100, 101, 102]⟩) (.int .u8 y)).run Tryd.prog w = .ok (.int .u8 (hexd y)) w := by
  obtain rfl | rfl | rfl | rfl | rfl | rfl | rfl | rfl | rfl | rfl | rfl | rfl | rfl | rfl | rfl | rfl : y = 0 ∨ y = 1 ∨ y = 2 ∨ y = 3 ∨ y = 4 ∨ y = 5 ∨ y = 6 ∨ y = 7 ∨ y = 8 ∨ y = 9 ∨ y = 10 ∨ y = 11 ∨ y = 12 ∨ y = 13 ∨ y = 14 ∨ y = 15 := by omega
  all_goals kernel_rfl

set_option maxRecDepth 20000 in
set_option maxHeartbeats 1000000 in
theorem text_any (l : List Int) (w : World) (hl : l.length = 32) (h8 : In8 l) :
    Calls Tryd.prog 12 #[.agg (v8 l)] w fun e w' => e = .returned (.string (strOfNums (textS l))) ∧ Below w.heap.size w w' := by
  have h25 : (Tryd.prog.info? 25).map (·.size) = some (v8 l).size := by rw [v8_size, hl]; kernel_rfl
  go_enter Tryd.func12, Tryd.ntmps12
  go_wp2_with (refine wpList_load_row (by rfl) 25 (.tmp 1) (by rfl) w.heap.size (by rfl) 25 (v8 l) (0, 0) _ ((Row.new w 25 _).alloc _) Tryd.underlying25 rfl h25 ?_)
  go_loopw [7] (fun i wr => ∃ k : Nat, k ≤ 32 ∧ i = .int .i64 k ∧ Row wr (w.heap.size + 1) 47 (v8 (textN l k)) ∧ Below w.heap.size w wr) (fun i _ => 32 - (intOf i).toNat)
  case atStart =>
    exact ⟨0, by omega, rfl, Row.newAt _ 47 _ _ (by simp), ((Below.refl _ _).alloc (Nat.le_refl _) _).alloc (by simp) _⟩
  case round =>
    obtain ⟨k, hk, rfl, r1, hbel⟩ := hrel
    by_cases hlt : k < 32
    · have hidx : ∀ wx, (Instr.index 25 (.agg (v8 l)) (.int .i64 (k : Int))).run Tryd.prog wx = .ok (.int .u8 (gi l k)) wx := fun wx =>
        run_index_row 25 5 32 .u8 _ .i64 k _ Tryd.underlying25 Tryd.underlying5 (by kernel_rfl) hlt (v8_at (by omega))
      obtain ⟨x0, x1⟩ := h8 k
      have hx1 := hex_index (gi l k / 16) (by omega) (by omega)
      have hx2 := hex_index (gi l k % 16) (by omega) (by omega)
      have ht := textN_length l k
      obtain ⟨c0, hc0⟩ : ∃ v, wr.cell? ⟨w.heap.size + 1, 2 * k, none⟩ = some v := ⟨_, r1.cell8 (by omega)⟩
      have f0 : wr.frozen? ⟨w.heap.size + 1, 2 * k, none⟩ = false := r1.frozen
      obtain ⟨c1, hc1⟩ : ∃ v, wr.cell? ⟨w.heap.size + 1, 2 * k + 1, none⟩ = some v := ⟨_, r1.cell8 (by omega)⟩
      have f1 : wr.frozen? ⟨w.heap.size + 1, 2 * k + 1, none⟩ = false := r1.frozen
      go_wp2
      go_roundw
      case rel => exact ⟨k + 1, by omega, by go_num, (r1.set8 (2 * k) _).set8 (2 * k + 1) _, (hbel.setCell (by simp) _).setCell (by simp) _⟩
      case measure => simp [intOf]; omega
    · obtain rfl : k = 32 := by omega
      have ht := textN_length l 32
      have hcv := run_convert_bytes_arg (P := Tryd.prog) wr 22 5 Tryd.underlying22 Tryd.underlying5 (w.heap.size + 1) 0 64 64 (textS l) ht (fun i hi => by rw [Nat.zero_add]; exact r1.cell8 (by omega)) 9 Tryd.underlying9
      go_wp2
      go_ret
      exact ⟨rfl, hbel⟩
end Go.Proofs.YtjefmnoffekeoaaDoor
