/- near: the id, or the id with one byte turned; it turns no old memory. -/
import Derived.Test.YtkmhnpkkkhglpaaBtw
namespace Go.Proofs.Ytkmhnpkkkhglpaa
open Go.RowKit

theorem below_setRow {w w' : World} {B g : Nat} (h : Below B w w') (hg : B ≤ g) (cs : Array Value) : Below B w (w'.setRow g cs) :=
  ⟨h.os, h.tape, h.output, by rw [setRow_size]; exact h.size, fun b hb => by rw [setRow_other w' g b cs (by omega)]; exact h.block b hb⟩
def zero32 : List Int := List.replicate 32 0
theorem id_zero : Id32 zero32 := ⟨by simp [zero32], fun x hx => by have := List.eq_of_mem_replicate hx; omega⟩
def nearL (a : List Int) (n b : Int) : List Int := if n < 0 then a else a.set (n % 32).toNat ((gi a (n % 32).toNat + b) % 256)
theorem id_near {a : List Int} (ha : Id32 a) (n b : Int) : Id32 (nearL a n b) := by
  unfold nearL
  split
  · exact ha
  · exact ha.set _ (by omega)

set_option maxRecDepth 20000 in
set_option maxHeartbeats 1000000 in
theorem near_any (a : List Int) (n b : Int) (w : World) (ha : Id32 a) :
    Calls Try.prog 9 #[.agg (v8 a), .int .i64 n, .int .u8 b] w fun e w' => e = .returned (.agg (v8 (nearL a n b))) ∧ Below w.heap.size w w' := by
  have b0 : Below w.heap.size w ((w.alloc (.cells (v8 a) 23)).alloc (.cells (v8 zero32) 23)) := ((Below.refl _ _).alloc (Nat.le_refl _) _).alloc (by simp) _
  have ra : Row ((w.alloc (.cells (v8 a) 23)).alloc (.cells (v8 zero32) 23)) w.heap.size 23 (v8 a) := (Row.new w 23 (v8 a)).alloc _
  have rz : Row ((w.alloc (.cells (v8 a) 23)).alloc (.cells (v8 zero32) 23)) (w.heap.size + 1) 23 (v8 zero32) := Row.newAt _ _ _ _ (by simp)
  have hz : ∀ {l : List Int}, Id32 l → (v8 zero32).size = (v8 l).size := fun {l} hl => by rw [v8_size, v8_size, hl.1, id_zero.1]
  unfold nearL
  by_cases h : n < 0
  · rw [if_pos h]
    have sa := sz23 ha
    go_enter Try.func9, Try.ntmps9
    go_wp2_with (first
      | (refine wpList_load_row (by rfl) 23 (.tmp 3) (by rfl) w.heap.size (by rfl) 23 (v8 a) (0, 0) _ ra Try.underlying23 rfl sa ?_)
      | (refine store_row0 23 (.tmp 6) (.tmp 9) (by rfl) (by rfl) (by rfl) (w.heap.size + 1) (v8 a) (by rfl) (by rfl) 23 _ rz sa (hz ha) (v8_one _) ?_))
    exact bodyPost_ret (results_cell_row Try.results9 _ _ (w.heap.size + 1) 23 (v8 a) (0, 0) _ rfl (rz.setRow _) Try.underlying23 rfl sa) rfl ⟨rfl, below_setRow b0 (by omega) _⟩
  · rw [if_neg h]
    obtain ⟨k, rfl⟩ : ∃ k : Nat, n = k := ⟨n.toNat, by omega⟩
    obtain ⟨j, hj⟩ : ∃ j, j = k % 32 := ⟨_, rfl⟩
    have hj32 : j < 32 := by omega
    have ej : ((k : Int) % 32) = (j : Int) := by omega
    rw [ej, Int.toNat_natCast]
    have e1 : Int.tmod (k : Int) 32 = (j : Int) := by rw [hj]; rfl
    clear hj
    have hv : ((w.alloc (.cells (v8 a) 23)).alloc (.cells #[.int .u8 0, .int .u8 0, .int .u8 0, .int .u8 0, .int .u8 0, .int .u8 0, .int .u8 0, .int .u8 0, .int .u8 0, .int .u8 0, .int .u8 0, .int .u8 0, .int .u8 0, .int .u8 0, .int .u8 0, .int .u8 0, .int .u8 0, .int .u8 0, .int .u8 0, .int .u8 0, .int .u8 0, .int .u8 0, .int .u8 0, .int .u8 0, .int .u8 0, .int .u8 0, .int .u8 0, .int .u8 0, .int .u8 0, .int .u8 0, .int .u8 0, .int .u8 0] 23)).cell? ⟨w.heap.size, j, none⟩ = some (.int .u8 (gi a j)) := ra.cell8 (by rw [ha.1]; exact hj32)
    have hf : ((w.alloc (.cells (v8 a) 23)).alloc (.cells #[.int .u8 0, .int .u8 0, .int .u8 0, .int .u8 0, .int .u8 0, .int .u8 0, .int .u8 0, .int .u8 0, .int .u8 0, .int .u8 0, .int .u8 0, .int .u8 0, .int .u8 0, .int .u8 0, .int .u8 0, .int .u8 0, .int .u8 0, .int .u8 0, .int .u8 0, .int .u8 0, .int .u8 0, .int .u8 0, .int .u8 0, .int .u8 0, .int .u8 0, .int .u8 0, .int .u8 0, .int .u8 0, .int .u8 0, .int .u8 0, .int .u8 0, .int .u8 0] 23)).frozen? ⟨w.heap.size, j, none⟩ = false := ra.frozen
    have gj := ha.2.gi j
    have hC : ((v8 a).setIfInBounds j (.int .u8 ((gi a j + b) % 256))) = v8 (a.set j ((gi a j + b) % 256)) := v8_set _ _ _
    have rb : Row ((w.alloc (.cells ((v8 a).setIfInBounds j (.int .u8 ((gi a j + b) % 256))) 23)).alloc (.cells (v8 zero32) 23)) w.heap.size 23 ((v8 a).setIfInBounds j (.int .u8 ((gi a j + b) % 256))) := (Row.new w 23 _).alloc _
    have rz1 : Row ((w.alloc (.cells ((v8 a).setIfInBounds j (.int .u8 ((gi a j + b) % 256))) 23)).alloc (.cells (v8 zero32) 23)) (w.heap.size + 1) 23 (v8 zero32) := Row.newAt _ _ _ _ (by simp)
    have b1 : Below w.heap.size w ((w.alloc (.cells ((v8 a).setIfInBounds j (.int .u8 ((gi a j + b) % 256))) 23)).alloc (.cells (v8 zero32) 23)) := ((Below.refl _ _).alloc (Nat.le_refl _) _).alloc (by simp) _
    have hl : Id32 (a.set j ((gi a j + b) % 256)) := ha.set _ (by omega)
    have sl : (Try.prog.info? 23).map (·.size) = some ((v8 a).setIfInBounds j (.int .u8 ((gi a j + b) % 256))).size := by rw [hC]; exact sz23 hl
    have hz' : (v8 zero32).size = ((v8 a).setIfInBounds j (.int .u8 ((gi a j + b) % 256))).size := by rw [hC]; exact hz hl
    have h1 : ((v8 a).setIfInBounds j (.int .u8 ((gi a j + b) % 256))).all (·.oneCell') = true := by rw [hC]; exact v8_one _
    rw [← hC]
    clear hz hC ra rz b0
    go_enter Try.func9, Try.ntmps9
    go_wp2_with (first
      | (refine wpList_load_row (by rfl) 23 (.tmp 3) (by rfl) w.heap.size (by rfl) 23 ((v8 a).setIfInBounds j (.int .u8 ((gi a j + b) % 256))) (0, 0) _ rb Try.underlying23 rfl sl ?_)
      | (refine store_row0 23 (.tmp 6) (.tmp 17) (by rfl) (by rfl) (by rfl) (w.heap.size + 1) ((v8 a).setIfInBounds j (.int .u8 ((gi a j + b) % 256))) (by rfl) (by rfl) 23 _ rz1 sl hz' h1 ?_))
    exact bodyPost_ret (results_cell_row Try.results9 _ _ (w.heap.size + 1) 23 ((v8 a).setIfInBounds j (.int .u8 ((gi a j + b) % 256))) (0, 0) _ rfl (rz1.setRow _) Try.underlying23 rfl sl) rfl ⟨rfl, below_setRow b1 (by omega) _⟩
end Go.Proofs.Ytkmhnpkkkhglpaa
