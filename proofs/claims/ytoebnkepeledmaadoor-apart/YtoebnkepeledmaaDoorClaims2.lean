/- More of one operation in a region that draws: guarded ones, texts of bytes, equality. No condition. -/
import Derived.Test.YtoebnkepeledmaaDoorClaims
import Derived.Test.YtoebnkepeledmaaDoorArrEq
import Derived.Laws.BytesArg
import Derived.Laws.Strings
namespace Go.Proofs.YtoebnkepeledmaaDoor
open Go Go.RowKit

theorem inv_opG {P : Program} {ops : Array Oper} {Q : Exit → Act → World → Prop} {i : Nat} {o : Oper} {K : Act → World → Prop} {a : Act} {w : World} (ho : ops[i]? = some o) (hg : Region.wanted o (yielded ops a.tmps) = true) (h : Oper.wp P o a w K Q) : wpOp P ops Q i K a w := by
  unfold wpOp
  simp only [ho, hg, if_true]
  exact .inl h
theorem inv_valG {P : Program} {ops : Array Oper} {Q : Exit → Act → World → Prop} {i : Nat} {o : Oper} {K : Act → World → Prop} {a : Act} {w w' : World} (v : Value) (ho : ops[i]? = some o) (hg : Region.wanted o (yielded ops a.tmps) = true) (hr : (execOp a.eval o).run P w = .ok (.value v) w') (h : K (a.put o.dst v) w') : wpOp P ops Q i K a w := by
  refine inv_opG ho hg ?_
  unfold Oper.wp
  rw [hr]
  exact h
theorem inv_callG {P : Program} {ops : Array Oper} {Q : Exit → Act → World → Prop} {i : Nat} {o : Oper} {K : Act → World → Prop} {a : Act} {w : World} (f : FuncId) (vs : Array Value) (R : Ending → World → Prop) (ho : ops[i]? = some o) (hg : Region.wanted o (yielded ops a.tmps) = true) (hr : (execOp a.eval o).run P w = .ok (.enter f vs) w) (hc : Calls P f vs w R) (h : ∀ e w', R e w' → ∃ v, e = .returned v ∧ K (a.put o.dst v) w') : wpOp P ops Q i K a w := by
  refine inv_opG ho hg ?_
  unfold Oper.wp
  rw [hr]
  exact hc.mono fun e w' hR => by
    obtain ⟨v, rfl, hk⟩ := h e w' hR
    exact hk
theorem exec_convert8 {o : Oper} {a : Act} {w : World} (x : Operand) (hop : o.op = .convert 28 9 x) (sp : Option Addr) (len cap : Nat) (xs : List Int) (hx : a.eval x = .slice sp len cap) (hlen : xs.length = len) (hp : 0 < len) (hb : Bytes w sp xs) :
    (execOp a.eval o).run Tryd.prog w = .ok (.value (.string (strOfNums xs))) w := by
  obtain ⟨b, off, rfl, hc⟩ := hb (by omega)
  have h := run_convert_bytes_arg (P := Tryd.prog) w 28 5 Tryd.underlying28 Tryd.underlying5 b off len cap xs hlen (fun i hi => by
    rw [hc i (by omega)]; rfl) 9 Tryd.underlying9
  unfold execOp
  simp only [hop, hx]
  simp [h, Result.andThen]
theorem exec_eql_str {P : Program} {o : Oper} {a : Act} {w : World} (t t2 : TypeId) (x y : Operand) (hop : o.op = .binOp .eql t x y t2) (s : ByteArray) (hx : a.eval x = .string s) (hy : a.eval y = .string s) :
    (execOp a.eval o).run P w = .ok (.value (.bool true)) w := by
  unfold execOp
  simp only [hop, hx, hy]
  simp [eqGuard, binOp_string_eql]
theorem exec_eql_id {o : Oper} {a : Act} {w : World} (x y : Operand) (hop : o.op = .binOp .eql 24 x y 24) (l : List Int) (hx : a.eval x = .agg (v8 l)) (hy : a.eval y = .agg (v8 l)) (hl : l.length = 32) :
    (execOp a.eval o).run Tryd.prog w = .ok (.value (.bool true)) w := by
  have h := run_eql_bytes (P := Tryd.prog) w 24 5 32 l l Tryd.underlying24 Tryd.underlying5 (by kernel_rfl) hl hl
  unfold execOp
  simp only [hop, hx, hy]
  simp [eqGuard, h, Result.andThen]
end Go.Proofs.YtoebnkepeledmaaDoor
