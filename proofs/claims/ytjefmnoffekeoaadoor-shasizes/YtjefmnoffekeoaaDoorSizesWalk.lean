/- ShaSizes returns true and turns no old memory, for every length and every byte, where firstState and roundWords hold what the text lays. -/
import Derived.Test.YtjefmnoffekeoaaDoorRef
import Derived.Test.YtjefmnoffekeoaaDoorArrEq
import Derived.Test.YtjefmnoffekeoaaDoorRText
import Derived.Test.YtjefmnoffekeoaaDoorKnown
namespace Go.Proofs.YtjefmnoffekeoaaDoor
open Go.RowKit

def fillN (by_ : Int) (n : Nat) : Nat → List Int
  | 0 => List.replicate n 0
  | k + 1 => (fillN by_ n k).set k ((by_ + (k : Int)) % 256)
theorem fillN_length (x : Int) (n : Nat) : ∀ k, (fillN x n k).length = n
  | 0 => by simp [fillN]
  | k + 1 => by rw [fillN, List.length_set, fillN_length x n k]

set_option maxRecDepth 20000 in
set_option maxHeartbeats 1000000 in
theorem sizes_early (n x : Int) (w : World) (hL : Laid w) (h : n < 0 ∨ 600 < n) :
    Calls Tryd.prog 4 #[.int .i64 n, .int .u8 x] w fun e w' => e = .returned (.bool true) ∧ Below w.heap.size w w' := by
  have hk := known_any w hL
  rcases h with h | h
  · go_enter Tryd.func4, Tryd.ntmps4
    go_wp2_with (go_at_call 8; refine Calls.mono hk ?_; rintro e w1 ⟨rfl, hb1⟩)
    go_ret
    exact ⟨rfl, hb1⟩
  · have h' : ¬ n < 0 := by omega
    go_enter Tryd.func4, Tryd.ntmps4
    go_wp2_with (go_at_call 8; refine Calls.mono hk ?_; rintro e w1 ⟨rfl, hb1⟩)
    go_ret
    exact ⟨rfl, hb1⟩

set_option maxRecDepth 20000 in
set_option maxHeartbeats 1000000 in
theorem sizes_any (n : Nat) (x : Int) (w : World) (hL : Laid w) (h : n ≤ 600) :
    Calls Tryd.prog 4 #[.int .i64 n, .int .u8 x] w fun e w' => e = .returned (.bool true) ∧ Below w.heap.size w w' := by
  have hk := known_any w hL
  have hmk := make8 n (by omega)
  have h0 : ¬ (n : Int) < 0 := by omega
  have h6 : ¬ (600 : Int) < (n : Int) := by omega
  go_enter Tryd.func4, Tryd.ntmps4
  go_wp2_with (go_at_call 8; refine Calls.mono hk ?_; rintro e w1 ⟨rfl, hb1⟩)
  go_loopw [6] (fun i wr => ∃ k : Nat, k ≤ n ∧ i = .int .i64 k ∧ Row wr w1.heap.size 5 (v8 (fillN x n k)) ∧ Below w1.heap.size w1 wr) (fun i _ => n - (intOf i).toNat)
  case atStart => exact ⟨0, Nat.zero_le _, rfl, Row.new _ _ _, (Below.refl _ _).alloc (Nat.le_refl _) _⟩
  case round =>
    obtain ⟨k, hk', rfl, r0, hb⟩ := hrel
    have hl := fillN_length x n k
    by_cases hlt : k < n
    · obtain ⟨v, hv⟩ : ∃ v, wr.cell? ⟨w1.heap.size, k, none⟩ = some v := ⟨_, r0.cell8 (by omega)⟩
      have hf : wr.frozen? ⟨w1.heap.size, k, none⟩ = false := r0.frozen
      go_wp2
      go_roundw
      case rel => exact ⟨k + 1, by omega, by go_num, r0.set8 k _, hb.setCell (Nat.le_refl _) _⟩
      case measure => simp [intOf]; omega
    · obtain rfl : k = n := by omega
      have hs := hb.size
      have hLr : Laid wr := (hL.below hb1).below hb
      have hsum := sum_any (fillN x k k) (some ⟨w1.heap.size, 0, none⟩) k k wr hl (Nat.le_refl _) (by omega) hLr r0.bytes
      have hr0 := r0.lt
      have href : ∀ wx, Below wr.heap.size wr wx → Calls Tryd.prog 10 #[.slice (some ⟨w1.heap.size, 0, none⟩) k k] wx fun e w' => e = .returned (.agg (v8 (shaS (fillN x k k)))) ∧ Below wx.heap.size wx w' := fun wx hbx =>
        ref_any (fillN x k k) _ k k wx hl (by omega) (fun h => by cases h) (r0.below hbx hr0).bytes
      have heq : ∀ wx, (binOp .eql 25 (.agg (v8 (shaS (fillN x k k)))) (.agg (v8 (shaS (fillN x k k))))).run Tryd.prog wx = .ok (.bool true) wx := fun wx => by
        rw [run_eql_bytes wx 25 5 32 _ _ Tryd.underlying25 Tryd.underlying5 (by kernel_rfl) (shaS_length _) (shaS_length _)]; simp
      clear hmk hk
      go_wp2_with (first | (go_at_call 9; refine Calls.mono hsum ?_; rintro e w2 ⟨rfl, hb2⟩) | (go_at_call 10; refine Calls.mono (href _ hb2) ?_; rintro e w3 ⟨rfl, hb3⟩))
      go_ret
      exact ⟨rfl, ((hb1.trans (hb.mono (by have := hb1.size; omega))).trans (hb2.mono (by have := hb1.size; omega))).trans (hb3.mono (by have := hb1.size; have := hb2.size; omega))⟩
end Go.Proofs.YtjefmnoffekeoaaDoor
