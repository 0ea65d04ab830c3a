/- An array of 56 bytes that came in by value, as the walks want it. No condition. -/
import Derived.Test.YtgcffdnbihfghaaArgI
namespace Go.Proofs.Ytgcffdnbihfghaa
open Go.ChangeShapes Go.WideShapes Go.ChangeAt Go.RowKit Go.Deep
section
variable {H : Type} {enc : TypeId × Value → H} {w : World} {base : Nat} {sp : Nat → Bool} {held : Bool}
theorem open_pub {v : Value} {d : DataW H} {p : List MemPlace} {r : Reach} {b0 : Nat} (hv : Value.okWide Try.prog w r b0 67 v) (h : DataW.Trod enc Try.prog w base sp held 67 v d p) :
    ∃ t : List Int, v = .agg (v8 t) ∧ t.length = 56 ∧ By t := by
  have hcs : ∃ cs, v = .agg cs ∧ cs.size = Try.prog.cellsOf 67 := by
    simp only [Value.okWide, Try.underlying67] at hv
    obtain ⟨cs, h1, h2, _⟩ := hv
    exact ⟨cs, h1, h2⟩
  obtain ⟨cs, rfl, hsz⟩ := hcs
  obtain ⟨fuel, hf⟩ := h
  have c5 : Try.prog.cellsOf 5 = 1 := by kernel_rfl
  have c67 : Try.prog.cellsOf 67 = 56 := by kernel_rfl
  rw [c67] at hsz
  obtain ⟨ys, n5, _, _, hyl, hyn, hel⟩ := DataW.trod_array Try.underlying67 hf
  simp only [Value.cells] at hyl hel
  have hpt : ∀ j, j < 56 → ∃ z : Int, cs.toList[j]? = some (.int .u8 z) ∧ 0 ≤ z ∧ z < 256 := fun j hj => by
    have h1 := hel j hj
    have hyj : ys[j]? = some (ys.getD j (.nil, [])) := by simp [List.getD, List.getElem?_eq_getElem (show j < ys.length by omega)]
    rw [hyj, c5, Nat.mul_one] at h1
    obtain ⟨z, e, _, hwf⟩ := DataW.trod_int Try.underlying5 h1
    exact ⟨z, at_of_take e, byte_range hwf⟩
  refine ⟨(List.range 56).map (fun j => intOf (cs.toList.getD j undef)), ?_, by simp, fun y hy => ?_⟩
  · congr 1
    apply Array.toList_inj.1
    rw [show ∀ l, (v8 l).toList = l.map (Value.int .u8) from fun l => by unfold v8; simp]
    apply List.ext_getElem?
    intro i
    by_cases hi : i < 56
    · obtain ⟨z, hz, _⟩ := hpt i hi
      have h2 : intOf (cs.toList.getD i undef) = z := by rw [List.getD_eq_getElem?_getD, hz]; rfl
      rw [hz, List.getElem?_map, List.getElem?_map, List.getElem?_range hi, Option.map_some, Option.map_some, h2]
    · rw [List.getElem?_eq_none (by simp; omega), List.getElem?_eq_none (by simp; omega)]
  · obtain ⟨j, hj, rfl⟩ := List.mem_map.1 hy
    obtain ⟨z, hz, hr⟩ := hpt j (List.mem_range.1 hj)
    have h2 : intOf (cs.toList.getD j undef) = z := by rw [List.getD_eq_getElem?_getD, hz]; rfl
    rw [h2]; exact hr
end
end Go.Proofs.Ytgcffdnbihfghaa
