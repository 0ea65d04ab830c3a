/- How many elements the datum of a slice of bytes has. No condition. -/
import Derived.Test.YtoebnkepeledmaaDoorArg
namespace Go.Proofs.YtoebnkepeledmaaDoor
open Go.ChangeShapes Go.WideShapes Go.ChangeAt Go.RowKit

set_option maxRecDepth 20000 in
theorem open_data {H : Type} {enc : TypeId × Value → H} {w : World} {base : Nat} {sp : Nat → Bool} {held : Bool} {a : Option Addr} {len cap : Nat} {d : DataW H} {p : List MemPlace}
    (h : DataW.Trod enc Tryd.prog w base sp held 28 (.slice a len cap) d p) : len = 0 ∨ ∃ xs ys, d = .slice xs ys ∧ xs.length = len := by
  obtain ⟨fuel, hf⟩ := h
  have c5 : Tryd.prog.cellsOf 5 = 1 := by kernel_rfl
  rcases open_ints Tryd.underlying28 Tryd.underlying5 c5 hf with ⟨hcs, _⟩ | ⟨ad, len', cap', zs, hcs, _, hl, hm, hz, hx, _, _⟩
  · simp only [Value.cells, List.cons.injEq, and_true] at hcs
    injection hcs with _ e2
    exact .inl e2
  · simp only [Value.cells, List.cons.injEq, and_true] at hcs
    injection hcs with e1 e2 e3
    subst e2
    have hzl : len ≤ zs.length := by rw [hz]; split <;> omega
    injection hx with hx1
    exact .inr ⟨_, _, hx1, by simp [lits]; omega⟩

end Go.Proofs.YtoebnkepeledmaaDoor
