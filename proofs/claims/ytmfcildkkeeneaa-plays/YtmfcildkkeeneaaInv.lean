/- Claims on slots for walks by an invariant: bytes of one's own; operations that are guarded, or not. No condition. -/
import Derived.Test.YtmfcildkkeeneaaRegInv
import Derived.Test.YtmfcildkkeeneaaTw
namespace Go.Proofs.Ytmfcildkkeeneaa
open Go Go.RowKit
def OwnS (w : World) (B : Nat) (s : Value) (n : Nat) (L : List Int) : Prop := ∃ sp cap, s = .slice sp n cap ∧ Own8 w B 5 (.slice sp n cap) L
theorem OwnS.below {w w' : World} {B n : Nat} {s : Value} {L : List Int} (h : OwnS w B s n L) (hb : Below w.heap.size w w') : OwnS w' B s n L := by
  obtain ⟨sp, cap, rfl, h⟩ := h
  exact ⟨sp, cap, rfl, h.below hb (Nat.le_refl _)⟩
theorem inv_opG {P : Program} {ops : Array Oper} {Q : Exit → Act → World → Prop} {i : Nat} {o : Oper} {K : Act → World → Prop} {a : Act} {w : World} (ho : ops[i]? = some o) (hg : Region.wanted o (yielded ops a.tmps) = true) (h : Oper.wp P o a w K Q) : wpOp P ops Q i K a w := by
  unfold wpOp
  simp only [ho, hg, if_true]
  exact .inl h
theorem inv_valG {P : Program} {ops : Array Oper} {Q : Exit → Act → World → Prop} {i : Nat} {o : Oper} {K : Act → World → Prop} {a : Act} {w w' : World} (v : Value) (ho : ops[i]? = some o) (hg : Region.wanted o (yielded ops a.tmps) = true) (hr : (execOp a.eval o).run P w = .ok (.value v) w') (h : K (a.put o.dst v) w') : wpOp P ops Q i K a w := by
  refine inv_opG ho hg ?_
  unfold Oper.wp
  rw [hr]
  exact h
theorem inv_callG {P : Program} {ops : Array Oper} {Q : Exit → Act → World → Prop} {i : Nat} {o : Oper} {K : Act → World → Prop} {a : Act} {w : World} (f : FuncId) (vs : Array Value) (R : Ending → World → Prop) (ho : ops[i]? = some o) (hg : Region.wanted o (yielded ops a.tmps) = true) (hr : (execOp a.eval o).run P w = .ok (.enter f vs) w) (hc : Calls P f vs w R) (h : ∀ e w', R e w' → ∃ v, e = .returned v ∧ K (a.put o.dst v) w') : wpOp P ops Q i K a w := by
  refine inv_opG ho hg ?_
  unfold Oper.wp
  rw [hr]
  exact hc.mono fun e w' hR => by
    obtain ⟨v, rfl, hk⟩ := h e w' hR
    exact hk
theorem own8_row {w : World} {b : Nat} {bs : List Int} (h : Row w b 5 (v8 bs)) (hl : bs.length ≤ maxLen) : Own8 w b 5 (.slice (some ⟨b, 0, none⟩) bs.length bs.length) bs := by
  unfold Own8 World.ownsRow
  refine ⟨by simp, .inr ⟨b, bs.length, v8 bs, rfl, Nat.le_refl _, h, Nat.le_refl _, hl, by simp [v8_size], by simp [v8, List.take_of_length_le]⟩⟩
end Go.Proofs.Ytmfcildkkeeneaa
