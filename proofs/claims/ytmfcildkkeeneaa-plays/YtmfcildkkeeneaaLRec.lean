/- A number's record, in the program: what record answers. No old memory turns. -/
import Derived.Test.YtmfcildkkeeneaaLMath
import Derived.Test.YtmfcildkkeeneaaArrEq
namespace Go.Proofs.Ytmfcildkkeeneaa
open Go Go.RowKit
/-- A byte of a number, the highest first. -/
def byR (n : Int) (k : Nat) : Int := n / 2 ^ (8 * (3 - k)) % 256
def recK (n : Int) : Nat → List Int
  | 0 => zer 8
  | k + 1 => ((recK n k).set k (byR n k)).set (4 + k) (255 - byR n k)
theorem recK_len (n : Int) : ∀ k, (recK n k).length = 8
  | 0 => rfl
  | k + 1 => by simp [recK, recK_len n k]
theorem recK_all (n : Int) : recK n 4 = recL n := by
  have e0 : byR n 0 = n / 16777216 % 256 := rfl
  have e1 : byR n 1 = n / 65536 % 256 := rfl
  have e2 : byR n 2 = n / 256 % 256 := rfl
  have e3 : byR n 3 = n % 256 := by show n / 2 ^ 0 % 256 = _; rw [Int.pow_zero, Int.ediv_one]
  show [byR n 0, byR n 1, byR n 2, byR n 3, 255 - byR n 0, 255 - byR n 1, 255 - byR n 2, 255 - byR n 3] = _
  rw [e0, e1, e2, e3]; rfl
/-- '^b' of a byte. -/
theorem not_u8 {x : Int} (h : 0 ≤ x ∧ x < 256) : bits .xor .u8 (if IntKind.u8.signed = true then -1 else IntKind.u8.max) x = 255 - x := by
  have key : ∀ i : Fin 256, bits .xor .u8 (if IntKind.u8.signed = true then -1 else IntKind.u8.max) ((i.val : Nat) : Int) = 255 - ((i.val : Nat) : Int) := by decide +kernel
  obtain ⟨m, rfl⟩ : ∃ m : Nat, x = m := ⟨x.toNat, by omega⟩
  exact key ⟨m, by omega⟩
theorem byR_range (n : Int) (k : Nat) : 0 ≤ byR n k ∧ byR n k < 256 := by unfold byR; omega
theorem info67 {l : List Int} (h : l.length = 8) : (Try.prog.info? 67).map (·.size) = some (v8 l).size := by rw [v8_size, h]; kernel_rfl

set_option maxRecDepth 20000 in
set_option maxHeartbeats 1000000 in
theorem record_any (n : Int) (w : World) :
    Calls Try.prog 32 #[.int .i64 n] w fun e w' => e = .returned (.agg (v8 (recL n))) ∧ Below w.heap.size w w' := by
  go_enter Try.func32, Try.ntmps32
  go_wp2
  go_loopw [6] (fun i wr => ∃ k : Nat, k ≤ 4 ∧ i = .int .i64 k ∧ Row wr w.heap.size 67 (v8 (zer 8)) ∧ Row wr (w.heap.size + 1) 67 (v8 (recK n k)) ∧ Below w.heap.size w wr) (fun i _ => 4 - (intOf i).toNat)
  case atStart =>
    exact ⟨0, by omega, rfl, (Row.new _ 67 _).alloc _, Row.newAt _ 67 _ _ (by simp), ((Below.refl _ _).alloc (Nat.le_refl _) _).alloc (by simp) _⟩
  case round =>
    obtain ⟨k, hk, rfl, r1, r2, hbel⟩ := hrel
    have hlen := recK_len n k
    by_cases hlt : k < 4
    · have c1 := r2.cell8 (j := k) (by omega)
      have c2 := r2.cell8 (j := 4 + k) (by omega)
      have f1 := r2.frozen (j := k)
      have f2 := r2.frozen (j := 4 + k)
      have hnot := not_u8 (byR_range n k)
      unfold byR at hnot
      go_wp2
      go_roundw
      case rel => exact ⟨k + 1, by omega, by go_num, (r1.setOther (a := ⟨_, k, none⟩) (by simp) _).setOther (a := ⟨_, 4 + k, none⟩) (by simp) _, (r2.set8 k _).set8 (4 + k) _, (hbel.setCell (by simp) _).setCell (by simp) _⟩
      case measure => simp [intOf]; omega
    · obtain rfl : k = 4 := by omega
      have hE := recK_all n
      have h25 := info67 (recL_len n)
      rw [hE] at r2
      have hold : (v8 (zer 8)).size = (v8 (recL n)).size := rfl
      go_wp2_with (first
        | (refine wpList_load_row (by rfl) 67 (.tmp 3) (by rfl) (w.heap.size + 1) (by rfl) 67 (v8 (recL n)) (0, 0) _ r2 Try.underlying67 rfl h25 ?_)
        | (refine store_row0 67 (.tmp 2) (.tmp 24) (by rfl) (by rfl) (by rfl) w.heap.size (v8 (recL n)) (by rfl) (by rfl) 67 _ r1 h25 hold (v8_one _) ?_))
      exact bodyPost_ret (results_cell_row Try.results32 _ _ w.heap.size 67 (v8 (recL n)) (0, 0) _ rfl (r1.setRow _) Try.underlying67 rfl h25) rfl ⟨rfl, below_setRow hbel (by omega) _⟩
end Go.Proofs.Ytmfcildkkeeneaa
