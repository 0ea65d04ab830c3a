/- Claims on slots for the walks by an invariant: a slice of one's own, a literal, a new variable; and what keeps them. No condition. -/
import Derived.Test.YtoebnkepeledmaaDoorRegInv
import Derived.Test.YtoebnkepeledmaaDoorRefB
import Derived.Test.YtoebnkepeledmaaDoorRefF
namespace Go.Proofs.YtoebnkepeledmaaDoor
open Go Go.RowKit

def OwnS (w : World) (B : Nat) (s : Value) (n : Nat) (L : List Int) : Prop := ∃ sp cap, s = .slice sp n cap ∧ Own8 w B 5 (.slice sp n cap) L
def LitS (w : World) (B : Nat) (s : Value) (n : Nat) (L : List Int) : Prop := ∃ b, s = .slice (some ⟨b, 0, none⟩) n n ∧ Row w b 5 (v8 L) ∧ B ≤ b
def VarS (w : World) (B : Nat) (s : Value) (T : TypeId) (z : List Int) : Prop := ∃ b, s = .pointer (some ⟨b, 0, none⟩) ∧ Row w b T (v8 z) ∧ B ≤ b
theorem OwnS.alloc {w : World} {B n : Nat} {s : Value} {L : List Int} (h : OwnS w B s n L) (o : Obj) : OwnS (w.alloc o) B s n L := by
  obtain ⟨sp, cap, rfl, h⟩ := h
  exact ⟨sp, cap, rfl, h.alloc o⟩
theorem OwnS.below {w w' : World} {B n : Nat} {s : Value} {L : List Int} (h : OwnS w B s n L) (hb : Below w.heap.size w w') : OwnS w' B s n L := by
  obtain ⟨sp, cap, rfl, h⟩ := h
  exact ⟨sp, cap, rfl, h.below hb (Nat.le_refl _)⟩
theorem OwnS.new (w : World) (B : Nat) (hB : B ≤ w.heap.size) : OwnS (w.alloc (.cells (v8 []) 5)) B (.slice (some ⟨w.heap.size, 0, none⟩) 0 0) 0 [] := ⟨_, _, rfl, own8_lit w B hB⟩
theorem LitS.alloc {w : World} {B n : Nat} {s : Value} {L : List Int} (h : LitS w B s n L) (o : Obj) : LitS (w.alloc o) B s n L := by
  obtain ⟨b, rfl, h, hb⟩ := h
  exact ⟨b, rfl, h.alloc o, hb⟩
theorem LitS.below {w w' : World} {B n : Nat} {s : Value} {L : List Int} (h : LitS w B s n L) (hb : Below w.heap.size w w') : LitS w' B s n L := by
  obtain ⟨b, rfl, h, h2⟩ := h
  exact ⟨b, rfl, h.below hb h.lt, h2⟩
theorem LitS.grew {w w' : World} {B n : Nat} {s v : Value} {L : List Int} (h : LitS w B s n L) (hg : Grew w w' v.ownBlock) (hne : s.ownBlock ≠ v.ownBlock) : LitS w' B s n L := by
  obtain ⟨b, rfl, h, h2⟩ := h
  exact ⟨b, rfl, h.grew hg hne, h2⟩
theorem LitS.new (w : World) (B : Nat) (hB : B ≤ w.heap.size) (n : Nat) (L : List Int) (_ : L.length = n) : LitS (w.alloc (.cells (v8 L) 5)) B (.slice (some ⟨w.heap.size, 0, none⟩) n n) n L := ⟨_, rfl, Row.new _ _ _, hB⟩
theorem LitS.ne_own {w w' : World} {B n : Nat} {s v : Value} {L l : List Int} (h : LitS w B s n L) (ho : Own8 w' w.heap.size 5 v l) : s.ownBlock ≠ v.ownBlock := by
  obtain ⟨b, rfl, h, _⟩ := h
  exact own_ge ho h.lt
theorem LitS.ne_new {w : World} {B n m : Nat} {s : Value} {L : List Int} (h : LitS w B s n L) : s.ownBlock ≠ (Value.slice (some ⟨w.heap.size, 0, none⟩) m m).ownBlock := by
  obtain ⟨b, rfl, h, _⟩ := h
  have := h.lt
  intro e
  have : b = w.heap.size := by simpa [Value.ownBlock] using e
  omega
theorem litNew {w : World} {B n m : Nat} {s : Value} {L : List Int} (h : OwnS w B s n L) : (Value.slice (some ⟨w.heap.size, 0, none⟩) m m).ownBlock ≠ s.ownBlock := by
  obtain ⟨sp, cap, rfl, h⟩ := h
  exact own_lt h (Nat.le_refl _)
theorem VarS.alloc {w : World} {B : Nat} {s : Value} {T : TypeId} {z : List Int} (h : VarS w B s T z) (o : Obj) : VarS (w.alloc o) B s T z := by
  obtain ⟨b, rfl, h, hb⟩ := h
  exact ⟨b, rfl, h.alloc o, hb⟩
theorem VarS.below {w w' : World} {B : Nat} {s : Value} {T : TypeId} {z : List Int} (h : VarS w B s T z) (hb : Below w.heap.size w w') : VarS w' B s T z := by
  obtain ⟨b, rfl, h, h2⟩ := h
  exact ⟨b, rfl, h.below hb h.lt, h2⟩
theorem VarS.grew {w w' : World} {B B' : Nat} {s v : Value} {T : TypeId} {z l : List Int} (h : VarS w B s T z) (hg : Grew w w' v.ownBlock) (ho : Own8 w B' 5 v l) (hT : T ≠ 5) : VarS w' B s T z := by
  obtain ⟨b, rfl, h, h2⟩ := h
  refine ⟨b, rfl, h.grew hg (fun e1 => ?_), h2⟩
  obtain ⟨_, ho⟩ := ho
  rcases ho with ⟨rfl, _⟩ | ⟨g', cap, cur, rfl, _, hh, _⟩
  · cases e1
  · have e2 : b = g' := by simpa [Value.ownBlock] using e1
    subst e2
    unfold Row at h
    rw [h] at hh
    injection hh with hh
    injection hh with _ hh
    exact hT hh
theorem VarS.new (w : World) (B : Nat) (hB : B ≤ w.heap.size) (T : TypeId) (z : List Int) : VarS (w.alloc (.cells (v8 z) T)) B (.pointer (some ⟨w.heap.size, 0, none⟩)) T z := ⟨_, rfl, Row.new _ _ _, hB⟩
theorem var_ne {w : World} {B b : Nat} {v : Value} {T : TypeId} {vs : Array Value} {l : List Int} (h : Row w b T vs) (ho : Own8 w B 5 v l) (hT : T ≠ 5) : some b ≠ v.ownBlock := fun e1 => by
  obtain ⟨_, ho⟩ := ho
  rcases ho with ⟨rfl, _⟩ | ⟨g', cap, cur, rfl, _, hh, _⟩
  · cases e1
  · have e2 : b = g' := by simpa [Value.ownBlock] using e1
    subst e2
    unfold Row at h
    rw [h] at hh
    injection hh with hh
    injection hh with _ hh
    exact hT hh
theorem OwnS.setVar {w : World} {B n b : Nat} {s : Value} {L : List Int} {T : TypeId} {vs cs : Array Value} (h : OwnS w B s n L) (hr : Row w b T vs) (hT : T ≠ 5) : OwnS (w.setRow b cs) B s n L := by
  obtain ⟨sp, cap, rfl, h⟩ := h
  exact ⟨sp, cap, rfl, h.setRowOther (var_ne hr h hT) cs⟩
theorem LitS.setVar {w : World} {B n b : Nat} {s : Value} {L : List Int} {T : TypeId} {vs cs : Array Value} (h : LitS w B s n L) (hr : Row w b T vs) (hT : T ≠ 5) : LitS (w.setRow b cs) B s n L := by
  obtain ⟨b', rfl, h, h2⟩ := h
  refine ⟨b', rfl, h.setRowOther (fun e => ?_) cs, h2⟩
  subst e
  unfold Row at h hr
  rw [h] at hr
  injection hr with hr
  injection hr with _ hr
  exact hT hr.symm
theorem inv_store {P : Program} {ops : Array Oper} {Q : Exit → Act → World → Prop} {i : Nat} {o : Oper} {K : Act → World → Prop} {a : Act} {w : World} (ty : TypeId) (x y : Operand) (ho : ops[i]? = some o) (hop : o.op = .store ty x y) (hg : o.guard = none) (hd : o.dst = none)
    (b : Nat) (cs : List Int) (hx : a.eval x = .pointer (some ⟨b, 0, none⟩)) (hy : a.eval y = .agg (v8 cs)) (T : TypeId) (z : List Int) (hr : Row w b T (v8 z)) (hi : (P.info? ty).map (·.size) = some (v8 cs).size) (hl : z.length = cs.length)
    (h : K a (w.setRow b (v8 cs))) : wpOp P ops Q i K a w := by
  refine inv_op ho hg ?_
  have h1 := run_storeVar_row (P := P) w b 0 T ty (v8 z) (v8 cs) hr (by rw [v8_size, v8_size]; omega) hi (v8_one _)
  have e : ((v8 z).toList.take 0 ++ (v8 cs).toList ++ (v8 z).toList.drop (0 + (v8 cs).size)).toArray = v8 cs := by
    simp [v8, hl]
  rw [e] at h1
  unfold Oper.wp execOp
  simp only [hop, hx, hy, Instr.storeAt, Instr.sureAddr, Sem.run_bind, Sem.run_pure, Result.andThen_ok, h1]
  rw [← show a.put o.dst undef = a by rw [hd]; rfl] at h
  exact h
theorem exec_load_row {P : Program} {o : Oper} {a : Act} {w : World} (ty : TypeId) (x : Operand) (ho : o.op = .load ty x) (g : Nat) (hx : a.eval x = .pointer (some ⟨g, 0, none⟩)) (t : TypeId) (cs : Array Value) (d : TypeDesc) (hr : Row w g t cs)
    (hu : P.underlying ty = some d) (hd : (match d with | .struct _ | .array _ _ => true | _ => false) = true) (hi : (P.info? ty).map (·.size) = some cs.size) : (execOp a.eval o).run P w = .ok (.value (.agg cs)) w := by
  unfold execOp
  simp only [ho, hx, Instr.loadAt, Instr.sureAddr, Sem.run_bind, Sem.run_pure, Result.andThen_ok, run_loadVar_row w g t ty cs (0, 0) d hr hu hd hi]
end Go.Proofs.YtoebnkepeledmaaDoor
