/- Whole rows loaded; bytes and numbers beside a store; so many noughts. No condition. -/
import Derived.Test.YtcdmjjlbeifgjaaKnown
import Derived.Test.YtcdmjjlbeifgjaaMade
import Derived.Deep.Cut
namespace Go.Proofs.Ytcdmjjlbeifgjaa
open Go.RowKit

theorem load_rowW {P : Program} {ops : Array Oper} {rest : List Oper} {o : Oper} {a : Act} {w : World} {Q : Exit → Act → World → Prop} (hw : Region.wanted o (yielded ops a.tmps) = true) (ty : TypeId) (x : Operand) (ho : o.op = .load ty x)
    (g : Nat) (hx : a.eval x = .pointer (some ⟨g, 0, none⟩)) (t : TypeId) (cs : Array Value) (fr : Nat × Nat) (d : TypeDesc) (hg : w.heap[g]? = some (.cells cs t fr))
    (hu : P.underlying ty = some d) (hd : (match d with | .struct _ | .array _ _ => true | _ => false) = true) (hi : (P.info? ty).map (·.size) = some cs.size)
    (h : wpList P ops Q rest (a.put o.dst (.agg cs)) w) : wpList P ops Q (o :: rest) a w :=
  BigFrame.wpList_want hw fun _ hK => wp_load_row ty x ho g hx t cs fr d hg hu hd hi (hK _ _ h)
theorem Bytes.setOther {w : World} {b o : Nat} {cs : List Int} (h : Bytes w (some ⟨b, o, none⟩) cs) {a : Addr} (ha : b ≠ a.block) (v : Value) : Bytes (w.setCell a v) (some ⟨b, o, none⟩) cs := fun hp => by
  obtain ⟨b', o', e, hc⟩ := h hp
  cases e
  exact ⟨b, o, rfl, fun j hj => by rw [World.cell?_setCell_other _ _ _ _ (fun e => ha (by rw [e]))]; exact hc j hj⟩
theorem Ints.setOther {w : World} {b o : Nat} {cs : List Int} (h : Ints w (some ⟨b, o, none⟩) cs) {a : Addr} (ha : b ≠ a.block) (v : Value) : Ints (w.setCell a v) (some ⟨b, o, none⟩) cs := fun hp => by
  obtain ⟨b', o', e, hc⟩ := h hp
  cases e
  exact ⟨b, o, rfl, fun j hj => by rw [World.cell?_setCell_other _ _ _ _ (fun e => ha (by rw [e]))]; exact hc j hj⟩
theorem ints_zi (w : World) (n b : Nat) (hb : b = w.heap.size) : Ints (w.alloc (.cells (zi n) 3)) (some ⟨b, 0, none⟩) (List.replicate n 0) := by subst hb; exact ints_new w 3 _
theorem info28 : (Try.prog.info? 28).map (·.size) = some 40 := by kernel_rfl
end Go.Proofs.Ytcdmjjlbeifgjaa
