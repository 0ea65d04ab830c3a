/- The reference's Encode: the error, or the bytes, of any message whose list and bytes are not longer than 100000: what wire.Encode answers. -/
import Derived.Test.YtcdmjjlbeifgjaaGr
namespace Go.Proofs.Ytcdmjjlbeifgjaa
open Go.RowKit

theorem renc_of (m : M) (lp dp : Option Addr) (lc dc : Nat) (w : World) (k : Int) (r : List Int) (hr : rowOf m.kind = some r) (hk : m.kind % 256 = k)
    (z : rowE m r = 0 → Calls Try.prog 12 #[.agg (mc m lp lc dp dc)] w fun e w' => ∃ sp cap, e = .returned (.tuple #[.slice sp (k :: r.flatMap (fun p => rB p m)).length cap, .int .i64 0]) ∧ Own8 w' w.heap.size 5 (.slice sp (k :: r.flatMap (fun p => rB p m)).length cap) (k :: r.flatMap (fun p => rB p m)) ∧ Below w.heap.size w w')
    (er : ∀ F, F ≠ 0 → rowE m r = F → Calls Try.prog 12 #[.agg (mc m lp lc dp dc)] w fun e w' => e = .returned (.tuple #[.slice none 0 0, .int .i64 F]) ∧ Below w.heap.size w w') :
    Calls Try.prog 12 #[.agg (mc m lp lc dp dc)] w fun e w' => ∃ sp cap, e = .returned (.tuple #[.slice sp (encB m).length cap, .int .i64 (encE m)]) ∧ Own8 w' w.heap.size 5 (.slice sp (encB m).length cap) (encB m) ∧ Below w.heap.size w w' := by
  have hE : encE m = rowE m r := by simp [encE, hr]
  by_cases h : rowE m r = 0
  · have hB : encB m = k :: r.flatMap (fun p => rB p m) := by simp only [encB, hr, h, if_true, hk]; rw [rowB_rB m r h]
    rw [hE, hB, h]
    exact z h
  · have hB : encB m = [] := by simp [encB, hr, h]
    rw [hE, hB]
    refine (er _ h rfl).mono ?_
    rintro e w' ⟨rfl, hb⟩
    exact ⟨none, 0, rfl, World.ownsRow_nil _ _ _ _, hb⟩

set_option maxRecDepth 20000 in
set_option maxHeartbeats 1000000 in
theorem renc_none (m : M) (lp dp : Option Addr) (lc dc : Nat) (w : World) (h : m.kind < 1 ∨ 12 < m.kind) :
    Calls Try.prog 12 #[.agg (mc m lp lc dp dc)] w fun e w' => ∃ sp cap, e = .returned (.tuple #[.slice sp (encB m).length cap, .int .i64 (encE m)]) ∧ Own8 w' w.heap.size 5 (.slice sp (encB m).length cap) (encB m) ∧ Below w.heap.size w w' := by
  have hr : rowOf m.kind = none := by
    unfold rowOf
    repeat (rw [if_neg (by omega)])
  have hE : encE m = 3 := by simp [encE, hr]
  have hB : encB m = [] := by simp [encB, hr]
  rw [hE, hB]
  have hc : (w.alloc (.cells (mc m lp lc dp dc) 28)).cell? ⟨w.heap.size, 0, none⟩ = some (.int .i64 m.kind) := ((Row.new w 28 _).cell).trans mc0
  clear hE hB hr
  by_cases h1 : m.kind < 1
  · have d1 : decide (m.kind < 1) = true := by simpa using h1
    go_enter Try.func12, Try.ntmps12
    go_wp2
    go_ret2
    exact ⟨none, 0, rfl, World.ownsRow_nil _ _ _ _, (Below.refl _ _).alloc (Nat.le_refl _) _⟩
  · have d1 : decide (m.kind < 1) = false := by simpa using h1
    have d2 : decide (12 < m.kind) = true := by simp; omega
    have h2 : 12 < m.kind := by omega
    clear h
    go_enter Try.func12, Try.ntmps12
    go_wp2
    go_ret2
    exact ⟨none, 0, rfl, World.ownsRow_nil _ _ _ _, (Below.refl _ _).alloc (Nat.le_refl _) _⟩

theorem renc_any (m : M) (lp dp : Option Addr) (lc dc : Nat) (w : World) (hF : Fld w m lp lc dp dc) (hll : m.list.length ≤ 100000) (hdl : m.data.length ≤ 100000) :
    Calls Try.prog 12 #[.agg (mc m lp lc dp dc)] w fun e w' => ∃ sp cap, e = .returned (.tuple #[.slice sp (encB m).length cap, .int .i64 (encE m)]) ∧ Own8 w' w.heap.size 5 (.slice sp (encB m).length cap) (encB m) ∧ Below w.heap.size w w' := by
  by_cases hn : m.kind < 1 ∨ 12 < m.kind
  · exact renc_none m lp dp lc dc w hn
  rcases (by omega : m.kind = 1 ∨ m.kind = 2 ∨ m.kind = 3 ∨ m.kind = 4 ∨ m.kind = 5 ∨ m.kind = 6 ∨ m.kind = 7 ∨ m.kind = 8 ∨ m.kind = 9 ∨ m.kind = 10 ∨ m.kind = 11 ∨ m.kind = 12) with h | h | h | h | h | h | h | h | h | h | h | h
  · refine renc_of m lp dp lc dc w 1 [] (by rw [h]; rfl) (by rw [h]; rfl) (fun hz => renc1z m h lp dp lc dc w hF hll hdl hz) (fun F hf hz => absurd (hz.symm.trans rfl) hf)
  · refine renc_of m lp dp lc dc w 2 [0, 2] (by rw [h]; rfl) (by rw [h]; rfl) (fun hz => renc2z m h lp dp lc dc w hF hll hdl hz) (fun F hf hz => renc2e m h lp dp lc dc w hF hll hdl F hf hz)
  · refine renc_of m lp dp lc dc w 3 [1] (by rw [h]; rfl) (by rw [h]; rfl) (fun hz => renc3z m h lp dp lc dc w hF hll hdl hz) (fun F hf hz => renc3e m h lp dp lc dc w hF hll hdl F hf hz)
  · refine renc_of m lp dp lc dc w 4 [4] (by rw [h]; rfl) (by rw [h]; rfl) (fun hz => renc4z m h lp dp lc dc w hF hll hdl hz) (fun F hf hz => renc4e m h lp dp lc dc w hF hll hdl F hf hz)
  · refine renc_of m lp dp lc dc w 5 [5] (by rw [h]; rfl) (by rw [h]; rfl) (fun hz => renc5z m h lp dp lc dc w hF hll hdl hz) (fun F hf hz => absurd (hz.symm.trans rfl) hf)
  · refine renc_of m lp dp lc dc w 6 [3, 2] (by rw [h]; rfl) (by rw [h]; rfl) (fun hz => ?_) (fun F hf hz => ?_)
    · cases hd : m.done
      · exact renc6fz m h hd lp dp lc dc w hF hll hdl hz
      · exact renc6tz m h hd lp dp lc dc w hF hll hdl hz
    · cases hd : m.done
      · exact renc6fe m h hd lp dp lc dc w hF hll hdl F hf hz
      · exact renc6te m h hd lp dp lc dc w hF hll hdl F hf hz
  · refine renc_of m lp dp lc dc w 7 [5] (by rw [h]; rfl) (by rw [h]; rfl) (fun hz => renc7z m h lp dp lc dc w hF hll hdl hz) (fun F hf hz => absurd (hz.symm.trans rfl) hf)
  · refine renc_of m lp dp lc dc w 8 [4, 6] (by rw [h]; rfl) (by rw [h]; rfl) (fun hz => renc8z m h lp dp lc dc w hF hll hdl hz) (fun F hf hz => renc8e m h lp dp lc dc w hF hll hdl F hf hz)
  · refine renc_of m lp dp lc dc w 9 [5, 6, 1, 7] (by rw [h]; rfl) (by rw [h]; rfl) (fun hz => renc9z m h lp dp lc dc w hF hll hdl hz) (fun F hf hz => renc9e m h lp dp lc dc w hF hll hdl F hf hz)
  · refine renc_of m lp dp lc dc w 10 [5, 6] (by rw [h]; rfl) (by rw [h]; rfl) (fun hz => renc10z m h lp dp lc dc w hF hll hdl hz) (fun F hf hz => renc10e m h lp dp lc dc w hF hll hdl F hf hz)
  · refine renc_of m lp dp lc dc w 11 [5] (by rw [h]; rfl) (by rw [h]; rfl) (fun hz => renc11z m h lp dp lc dc w hF hll hdl hz) (fun F hf hz => absurd (hz.symm.trans rfl) hf)
  · refine renc_of m lp dp lc dc w 12 [6, 1, 7] (by rw [h]; rfl) (by rw [h]; rfl) (fun hz => renc12z m h lp dp lc dc w hF hll hdl hz) (fun F hf hz => renc12e m h lp dp lc dc w hF hll hdl F hf hz)
end Go.Proofs.Ytcdmjjlbeifgjaa
