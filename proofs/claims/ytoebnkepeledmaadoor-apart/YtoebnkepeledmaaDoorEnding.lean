/- The filled up end of a text: ending answers 'endS' and how many bytes count, and turns no old memory; for every rest of fewer than 64 bytes and every size from 0 up to 2^56. -/
import Derived.Test.YtoebnkepeledmaaDoorMathB
import Derived.Test.YtoebnkepeledmaaDoorIdOf
namespace Go.Proofs.YtoebnkepeledmaaDoor
open Go.RowKit

theorem results_row_tmp {P : Program} {fn : Func} {p u : Tmp} {ty : TypeId} (h : fn.results = #[.cell p ty, .tmp u]) (tmps : Array Value) (w : World) (g : Nat) (t : TypeId) (cs : Array Value) (d : TypeDesc)
    (hp : tmps.getD p undef = .pointer (some ⟨g, 0, none⟩)) (hg : Row w g t cs)
    (hu : P.underlying ty = some d) (hd : (match d with | .struct _ | .array _ _ => true | _ => false) = true) (hi : (P.info? ty).map (·.size) = some cs.size) :
    (results fn tmps).run P w = .ok (.tuple #[.agg cs, tmps.getD u undef]) w := by
  rw [results_cell_tmp h, hp]
  simp [asAddr, run_loadVar_row w g t ty cs (0, 0) d hg hu hd hi]

set_option maxRecDepth 20000 in
set_option maxHeartbeats 1000000 in
theorem ending_a (rs : List Int) (sp : Option Addr) (len cap size : Nat) (w : World) (hlen : rs.length = len) (hr : len < 56) (hsz : size ≤ 72057594037927936) (hby : Bytes w sp rs) :
    Calls Tryd.prog 70 #[.slice sp len cap, .int .i64 size] w fun e w' => e = .returned (.tuple #[.agg (v8 (endS rs 64 (size * 8))), .int .i64 64]) ∧ Below w.heap.size w w' := by
  have hzv : ∀ wx, (zeroValue 113).run Tryd.prog wx = .ok (.agg (v8 zeros128)) wx := fun wx => by kernel_rfl
  go_enter Tryd.func70, Tryd.ntmps70
  go_wp2_with ((refine copy8 (.tmp 13) (.tmp 14) 28 28 (by rfl) (by rfl) 5 Tryd.underlying28 (by kernel_rfl) (some ⟨w.heap.size, 0, none⟩) sp 128 128 len cap (by rfl) (by rfl) w.heap.size 0 zeros128 113 (Row.new w 113 _) rs (by omega) (fun _ => rfl) (hby.below ((Below.refl _ _).alloc (Nat.le_refl _) _)) (by simp [zeros128]; omega) ?_); have p1 := (Row.new w 113 (v8 zeros128)).setRow (v8 (spl zeros128 0 rs)); have pb : Below w.heap.size w ((w.alloc (.cells (v8 zeros128) 113)).setRow w.heap.size (v8 (spl zeros128 0 rs))) := below_setRow ((Below.refl _ _).alloc (Nat.le_refl _) _) (Nat.le_refl _) _; generalize (w.alloc (.cells (v8 zeros128) 113)).setRow w.heap.size (v8 (spl zeros128 0 rs)) = w2 at p1 pb ⊢; have c1 : w2.cell? ⟨w.heap.size, len, none⟩ = some _ := p1.cell8 (by rw [spl_length _ _ _ (by simp [zeros128]; omega)]; simp [zeros128]; omega); have f1 : w2.frozen? ⟨w.heap.size, len, none⟩ = false := p1.frozen)
  go_loopw [22] (fun i wr => ∃ k : Nat, k ≤ 8 ∧ i = .int .i64 k ∧ Row wr w.heap.size 113 (v8 (endN rs 64 (size * 8) k)) ∧ Below w.heap.size w wr) (fun i _ => 8 - (intOf i).toNat)
  case atStart =>
    refine ⟨0, by omega, rfl, ?_, pb.setCell (Nat.le_refl _) _⟩
    have := p1.set8 len 128
    rw [← hlen] at this ⊢
    exact this
  case round =>
    clear c1 f1 p1 pb
    obtain ⟨k, hk, rfl, r1, hbel⟩ := hrel
    have hl := endN_length rs 64 (size * 8) (by omega) k
    by_cases hlt : k < 8
    · have c1 : wr.cell? ⟨w.heap.size, 64 - 1 - k, none⟩ = some _ := r1.cell8 (by omega)
      have f1 : wr.frozen? ⟨w.heap.size, 64 - 1 - k, none⟩ = false := r1.frozen
      go_wp2
      go_roundw
      case rel =>
        refine ⟨k + 1, by omega, by go_num, ?_, hbel.setCell (Nat.le_refl _) _⟩
        exact r1.set8 (64 - 1 - k) (lenB (size * 8) k)
      case measure => simp [intOf]; omega
    · obtain rfl : k = 8 := by omega
      have h39 : (Tryd.prog.info? 113).map (·.size) = some (v8 (endS rs 64 (size * 8))).size := by rw [v8_size]; unfold endS; rw [hl]; kernel_rfl
      clear hby hl
      go_wp2_with (first
        | (refine wpList_load_row (by rfl) 113 (.tmp 4) (by rfl) w.heap.size (by rfl) 113 (v8 (endS rs 64 (size * 8))) (0, 0) _ r1 Tryd.underlying113 rfl h39 ?_)
        | (refine store_row0 113 (.tmp 4) (.tmp 36) (by rfl) (by rfl) (by rfl) w.heap.size (v8 (endS rs 64 (size * 8))) (by rfl) (by rfl) 113 _ r1 h39 rfl (v8_one _) ?_))
      exact bodyPost_ret (results_row_tmp Tryd.results70 _ _ w.heap.size 113 (v8 (endS rs 64 (size * 8))) _ rfl (r1.setRow _) Tryd.underlying113 rfl h39) rfl ⟨rfl, below_setRow hbel (Nat.le_refl _) _⟩

set_option maxRecDepth 20000 in
set_option maxHeartbeats 1000000 in
theorem ending_b (rs : List Int) (sp : Option Addr) (len cap size : Nat) (w : World) (hlen : rs.length = len) (hr : 56 ≤ len) (hr' : len < 64) (hsz : size ≤ 72057594037927936) (hby : Bytes w sp rs) :
    Calls Tryd.prog 70 #[.slice sp len cap, .int .i64 size] w fun e w' => e = .returned (.tuple #[.agg (v8 (endS rs 128 (size * 8))), .int .i64 128]) ∧ Below w.heap.size w w' := by
  have hzv : ∀ wx, (zeroValue 113).run Tryd.prog wx = .ok (.agg (v8 zeros128)) wx := fun wx => by kernel_rfl
  go_enter Tryd.func70, Tryd.ntmps70
  go_wp2_with ((refine copy8 (.tmp 13) (.tmp 14) 28 28 (by rfl) (by rfl) 5 Tryd.underlying28 (by kernel_rfl) (some ⟨w.heap.size, 0, none⟩) sp 128 128 len cap (by rfl) (by rfl) w.heap.size 0 zeros128 113 (Row.new w 113 _) rs (by omega) (fun _ => rfl) (hby.below ((Below.refl _ _).alloc (Nat.le_refl _) _)) (by simp [zeros128]; omega) ?_); have p1 := (Row.new w 113 (v8 zeros128)).setRow (v8 (spl zeros128 0 rs)); have pb : Below w.heap.size w ((w.alloc (.cells (v8 zeros128) 113)).setRow w.heap.size (v8 (spl zeros128 0 rs))) := below_setRow ((Below.refl _ _).alloc (Nat.le_refl _) _) (Nat.le_refl _) _; generalize (w.alloc (.cells (v8 zeros128) 113)).setRow w.heap.size (v8 (spl zeros128 0 rs)) = w2 at p1 pb ⊢; have c1 : w2.cell? ⟨w.heap.size, len, none⟩ = some _ := p1.cell8 (by rw [spl_length _ _ _ (by simp [zeros128]; omega)]; simp [zeros128]; omega); have f1 : w2.frozen? ⟨w.heap.size, len, none⟩ = false := p1.frozen)
  go_loopw [22] (fun i wr => ∃ k : Nat, k ≤ 8 ∧ i = .int .i64 k ∧ Row wr w.heap.size 113 (v8 (endN rs 128 (size * 8) k)) ∧ Below w.heap.size w wr) (fun i _ => 8 - (intOf i).toNat)
  case atStart =>
    refine ⟨0, by omega, rfl, ?_, pb.setCell (Nat.le_refl _) _⟩
    have := p1.set8 len 128
    rw [← hlen] at this ⊢
    exact this
  case round =>
    clear c1 f1 p1 pb
    obtain ⟨k, hk, rfl, r1, hbel⟩ := hrel
    have hl := endN_length rs 128 (size * 8) (by omega) k
    by_cases hlt : k < 8
    · have c1 : wr.cell? ⟨w.heap.size, 128 - 1 - k, none⟩ = some _ := r1.cell8 (by omega)
      have f1 : wr.frozen? ⟨w.heap.size, 128 - 1 - k, none⟩ = false := r1.frozen
      go_wp2
      go_roundw
      case rel =>
        refine ⟨k + 1, by omega, by go_num, ?_, hbel.setCell (Nat.le_refl _) _⟩
        exact r1.set8 (128 - 1 - k) (lenB (size * 8) k)
      case measure => simp [intOf]; omega
    · obtain rfl : k = 8 := by omega
      have h39 : (Tryd.prog.info? 113).map (·.size) = some (v8 (endS rs 128 (size * 8))).size := by rw [v8_size]; unfold endS; rw [hl]; kernel_rfl
      clear hby hl
      go_wp2_with (first
        | (refine wpList_load_row (by rfl) 113 (.tmp 4) (by rfl) w.heap.size (by rfl) 113 (v8 (endS rs 128 (size * 8))) (0, 0) _ r1 Tryd.underlying113 rfl h39 ?_)
        | (refine store_row0 113 (.tmp 4) (.tmp 36) (by rfl) (by rfl) (by rfl) w.heap.size (v8 (endS rs 128 (size * 8))) (by rfl) (by rfl) 113 _ r1 h39 rfl (v8_one _) ?_))
      exact bodyPost_ret (results_row_tmp Tryd.results70 _ _ w.heap.size 113 (v8 (endS rs 128 (size * 8))) _ rfl (r1.setRow _) Tryd.underlying113 rfl h39) rfl ⟨rfl, below_setRow hbel (Nat.le_refl _) _⟩
end Go.Proofs.YtoebnkepeledmaaDoor
