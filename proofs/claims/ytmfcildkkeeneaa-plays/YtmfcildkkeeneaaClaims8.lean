/- Claims on slots for the walks by an invariant: a literal, a new variable; and what keeps them. No condition. -/
import Derived.Test.YtmfcildkkeeneaaInv
namespace Go.Proofs.Ytmfcildkkeeneaa
open Go Go.RowKit
def LitS (w : World) (B : Nat) (s : Value) (n : Nat) (L : List Int) : Prop := ∃ b, s = .slice (some ⟨b, 0, none⟩) n n ∧ Row w b 5 (v8 L) ∧ B ≤ b
def VarS (w : World) (B : Nat) (s : Value) (T : TypeId) (z : List Int) : Prop := ∃ b, s = .pointer (some ⟨b, 0, none⟩) ∧ Row w b T (v8 z) ∧ B ≤ b
theorem LitS.alloc {w : World} {B n : Nat} {s : Value} {L : List Int} (h : LitS w B s n L) (o : Obj) : LitS (w.alloc o) B s n L := by
  obtain ⟨b, rfl, h, hb⟩ := h
  exact ⟨b, rfl, h.alloc o, hb⟩
theorem LitS.below {w w' : World} {B n : Nat} {s : Value} {L : List Int} (h : LitS w B s n L) (hb : Below w.heap.size w w') : LitS w' B s n L := by
  obtain ⟨b, rfl, h, h2⟩ := h
  exact ⟨b, rfl, h.below hb h.lt, h2⟩
theorem LitS.new (w : World) (B : Nat) (hB : B ≤ w.heap.size) (n : Nat) (L : List Int) (_ : L.length = n) : LitS (w.alloc (.cells (v8 L) 5)) B (.slice (some ⟨w.heap.size, 0, none⟩) n n) n L := ⟨_, rfl, Row.new _ _ _, hB⟩
theorem VarS.alloc {w : World} {B : Nat} {s : Value} {T : TypeId} {z : List Int} (h : VarS w B s T z) (o : Obj) : VarS (w.alloc o) B s T z := by
  obtain ⟨b, rfl, h, hb⟩ := h
  exact ⟨b, rfl, h.alloc o, hb⟩
theorem VarS.below {w w' : World} {B : Nat} {s : Value} {T : TypeId} {z : List Int} (h : VarS w B s T z) (hb : Below w.heap.size w w') : VarS w' B s T z := by
  obtain ⟨b, rfl, h, h2⟩ := h
  exact ⟨b, rfl, h.below hb h.lt, h2⟩
theorem VarS.new (w : World) (B : Nat) (hB : B ≤ w.heap.size) (T : TypeId) (z : List Int) : VarS (w.alloc (.cells (v8 z) T)) B (.pointer (some ⟨w.heap.size, 0, none⟩)) T z := ⟨_, rfl, Row.new _ _ _, hB⟩
theorem LitS.setVar {w : World} {B n b : Nat} {s : Value} {L : List Int} {T : TypeId} {vs cs : Array Value} (h : LitS w B s n L) (hr : Row w b T vs) (hT : T ≠ 5) : LitS (w.setRow b cs) B s n L := by
  obtain ⟨b', rfl, h, h2⟩ := h
  refine ⟨b', rfl, h.setRowOther (fun e => ?_) cs, h2⟩
  subst e
  unfold Row at h hr
  rw [h] at hr
  injection hr with hr
  injection hr with _ hr
  exact hT hr.symm
theorem inv_store {P : Program} {ops : Array Oper} {Q : Exit → Act → World → Prop} {i : Nat} {o : Oper} {K : Act → World → Prop} {a : Act} {w : World} (ty : TypeId) (x y : Operand) (ho : ops[i]? = some o) (hop : o.op = .store ty x y) (hg : o.guard = none) (hd : o.dst = none)
    (b : Nat) (cs : List Int) (hx : a.eval x = .pointer (some ⟨b, 0, none⟩)) (hy : a.eval y = .agg (v8 cs)) (T : TypeId) (z : List Int) (hr : Row w b T (v8 z)) (hi : (P.info? ty).map (·.size) = some (v8 cs).size) (hl : z.length = cs.length)
    (h : K a (w.setRow b (v8 cs))) : wpOp P ops Q i K a w := by
  refine inv_op ho hg ?_
  have h1 := Go.run_storeVar_row (P := P) w b T ty (v8 z) (v8 cs) hr hi (by rw [v8_size, v8_size]; omega) (v8_one _)
  unfold Oper.wp execOp
  simp only [hop, hx, hy, Instr.storeAt, Instr.sureAddr, Sem.run_bind, Sem.run_pure, Result.andThen_ok, h1]
  rw [← show a.put o.dst undef = a by rw [hd]; rfl] at h
  exact h
theorem exec_load_row {P : Program} {o : Oper} {a : Act} {w : World} (ty : TypeId) (x : Operand) (ho : o.op = .load ty x) (g : Nat) (hx : a.eval x = .pointer (some ⟨g, 0, none⟩)) (t : TypeId) (cs : Array Value) (d : TypeDesc) (hr : Row w g t cs)
    (hu : P.underlying ty = some d) (hd : (match d with | .struct _ | .array _ _ => true | _ => false) = true) (hi : (P.info? ty).map (·.size) = some cs.size) : (execOp a.eval o).run P w = .ok (.value (.agg cs)) w := by
  unfold execOp
  simp only [ho, hx, Instr.loadAt, Instr.sureAddr, Sem.run_bind, Sem.run_pure, Result.andThen_ok, run_loadVar_row w g t ty cs (0, 0) d hr hu hd hi]
end Go.Proofs.Ytmfcildkkeeneaa
