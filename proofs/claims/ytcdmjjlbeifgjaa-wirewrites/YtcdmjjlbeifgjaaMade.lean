/- make of bytes and of numbers: so many noughts. No condition but that they are not more than 2^40. -/
import Derived.Test.YtcdmjjlbeifgjaaInts
import Derived.Laws.MakeOwn
namespace Go.Proofs.Ytcdmjjlbeifgjaa
open Go Go.RowKit

theorem madeCells_rep (z : Value) (n : Nat) (hz : z.cells = #[z]) : madeCells z.cells n = (List.replicate n z).toArray := by
  apply Array.ext
  · simp [size_madeCells]
  · intro i h1 h2
    simp [madeCells, hz, Nat.mod_one]
theorem make8 (n : Nat) (k : Int) (hk : k = n) (hn : n ≤ 1099511627776) (W : World) : (Instr.makeSlice 25 (.int .i64 k) (.int .i64 k)).run Try.prog W = .ok (.slice (some ⟨W.heap.size, 0, none⟩) n n) (W.alloc (.cells (v8 (List.replicate n 0)) 5)) := by
  obtain ⟨i, hi, hz, h1, h2⟩ : ∃ i, Try.prog.info? 5 = some i ∧ i.zero = some (.int .u8 0) ∧ i.size = 1 ∧ i.bytes = 1 := by
    have hinfo := info5
    cases hq : Try.prog.info? 5 with
    | none => simp [hq] at hinfo
    | some i => simp [hq] at hinfo; exact ⟨i, rfl, hinfo.1, hinfo.2.1, hinfo.2.2⟩
  subst hk
  rw [run_make W 25 5 i (.int .u8 0) Try.underlying25 hi hz .i64 .i64 n n (by omega) (by omega) (by rw [h2]; omega) (by omega), madeCells_rep _ _ rfl, h1]
  simp [v8]
/-- So many numbers, all nought. -/
def zi (n : Nat) : Array Value := ((List.replicate n (0 : Int)).map (Value.int .i64)).toArray
theorem makeI (n : Nat) (k : Int) (hk : k = n) (hn : n ≤ 1099511627776) (W : World) : (Instr.makeSlice 22 (.int .i64 k) (.int .i64 k)).run Try.prog W = .ok (.slice (some ⟨W.heap.size, 0, none⟩) n n) (W.alloc (.cells (zi n) 3)) := by
  obtain ⟨i, hi, hz, h1, h2⟩ : ∃ i, Try.prog.info? 3 = some i ∧ i.zero = some (.int .i64 0) ∧ i.size = 1 ∧ i.bytes = 8 := by
    have hinfo := info3
    cases hq : Try.prog.info? 3 with
    | none => simp [hq] at hinfo
    | some i => simp [hq] at hinfo; exact ⟨i, rfl, hinfo.1, hinfo.2.1, hinfo.2.2⟩
  subst hk
  rw [run_make W 22 3 i (.int .i64 0) Try.underlying22 hi hz .i64 .i64 n n (by omega) (by omega) (by rw [h2]; omega) (by omega), madeCells_rep _ _ rfl, h1]
  simp [zi]
end Go.Proofs.Ytcdmjjlbeifgjaa
