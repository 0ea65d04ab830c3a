/- WireKinds, some of its kinds: it returns true and turns no old memory. -/
import Derived.Test.YtcdmjjlbeifgjaaCutLaw
import Derived.Test.YtcdmjjlbeifgjaaArrEq
namespace Go.Proofs.Ytcdmjjlbeifgjaa
open Go.RowKit

def z32 : List Int := List.replicate 32 0
theorem load_midW {P : Program} {ops : Array Oper} {rest : List Oper} {op : Oper} {a : Act} {w : World} {Q : Exit → Act → World → Prop} (hw : Region.wanted op (yielded ops a.tmps) = true) (ty : TypeId) (x : Operand) (ho : op.op = .load ty x)
    (b o : Nat) (hx : a.eval x = .pointer (some ⟨b, o, none⟩)) (cs : List Value) (d : TypeDesc) (hc : w.rangeAt b o cs)
    (hu : P.underlying ty = some d) (hd : d.isRow = true) (hi : (P.info? ty).map (·.size) = some cs.length)
    (h : wpList P ops Q rest (a.put op.dst (.agg cs.toArray)) w) : wpList P ops Q (op :: rest) a w :=
  BigFrame.wpList_want hw fun _ hK => wp_load_mid ty x ho b o hx cs d hc hu hd hi (hK _ _ h)
theorem rangeK {w : World} {g : Nat} {t : TypeId} {m : M} {lp dp : Option Addr} {lc dc : Nat} (h : Row w g t (mc m lp lc dp dc)) (hk : m.key = z32) : w.rangeAt g 5 (z32.map (Value.int .u8)) := fun j v hv => by
  have hj : j < z32.length := by have := (List.getElem?_eq_some_iff.1 hv).1; simpa using this
  have hj' : j < 32 := hj
  rw [h.cell, mcK (by rw [hk]; rfl) hj', hk, ← hv]; simp [gi, hj]

end Go.Proofs.Ytcdmjjlbeifgjaa
