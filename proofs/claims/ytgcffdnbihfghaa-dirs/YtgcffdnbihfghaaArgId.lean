/- An id that came in by value, as the walks want it. No condition. -/
import Derived.Test.YtgcffdnbihfghaaArgI
namespace Go.Proofs.Ytgcffdnbihfghaa
open Go.ChangeShapes Go.WideShapes Go.ChangeAt Go.RowKit Go.Deep
section
variable {H : Type} {enc : TypeId × Value → H} {w : World} {base : Nat} {sp : Nat → Bool} {held : Bool}
theorem open_idv {v : Value} {d : DataW H} {p : List MemPlace} {r : Reach} {b0 : Nat} (hv : Value.okWide Try.prog w r b0 23 v) (h : DataW.Trod enc Try.prog w base sp held 23 v d p) :
    ∃ t : List Int, v = .agg (v8 t) ∧ t.length = 32 ∧ By t := by
  have hcs : ∃ cs, v = .agg cs ∧ cs.size = Try.prog.cellsOf 23 := by
    simp only [Value.okWide, Try.underlying23] at hv
    obtain ⟨cs, h1, h2, _⟩ := hv
    exact ⟨cs, h1, h2⟩
  obtain ⟨cs, rfl, hsz⟩ := hcs
  obtain ⟨fuel, hf⟩ := h
  have c5 : Try.prog.cellsOf 5 = 1 := by kernel_rfl
  have c23 : Try.prog.cellsOf 23 = 32 := by kernel_rfl
  rw [c23] at hsz
  obtain ⟨ys, n5, _, _, hyl, hyn, hel⟩ := DataW.trod_array Try.underlying23 hf
  simp only [Value.cells] at hyl hel
  have hpt : ∀ j, j < 32 → ∃ z : Int, cs.toList[j]? = some (.int .u8 z) ∧ 0 ≤ z ∧ z < 256 := fun j hj => by
    have h1 := hel j hj
    have hyj : ys[j]? = some (ys.getD j (.nil, [])) := by simp [List.getD, List.getElem?_eq_getElem (show j < ys.length by omega)]
    rw [hyj, c5, Nat.mul_one] at h1
    obtain ⟨z, e, _, hwf⟩ := DataW.trod_int Try.underlying5 h1
    exact ⟨z, at_of_take e, byte_range hwf⟩
  refine ⟨(List.range 32).map (fun j => intOf (cs.toList.getD j undef)), ?_, by simp, fun y hy => ?_⟩
  · congr 1
    apply Array.toList_inj.1
    rw [show ∀ l, (v8 l).toList = l.map (Value.int .u8) from fun l => by unfold v8; simp]
    apply List.ext_getElem?
    intro i
    by_cases hi : i < 32
    · obtain ⟨z, hz, _⟩ := hpt i hi
      have h2 : intOf (cs.toList.getD i undef) = z := by rw [List.getD_eq_getElem?_getD, hz]; rfl
      rw [hz, List.getElem?_map, List.getElem?_map, List.getElem?_range hi, Option.map_some, Option.map_some, h2]
    · rw [List.getElem?_eq_none (by simp; omega), List.getElem?_eq_none (by simp; omega)]
  · obtain ⟨j, hj, rfl⟩ := List.mem_map.1 hy
    obtain ⟨z, hz, hr⟩ := hpt j (List.mem_range.1 hj)
    have h2 : intOf (cs.toList.getD j undef) = z := by rw [List.getD_eq_getElem?_getD, hz]; rfl
    rw [h2]; exact hr
theorem trodAll_seven {P : Program} {spare : Nat → Bool} {t t' t'' t3 t4 t5 t6 : TypeId} {args : Array Value} {ds : List (DataW H)} {ps : List MemPlace} (h : DataW.TrodAll enc P w base spare held [t, t', t'', t3, t4, t5, t6] args.toList ds ps) :
    ∃ v v' v'' v3 v4 v5 v6 d d' d'' d3 d4 d5 d6 p p' p'' p3 p4 p5 p6, args = #[v, v', v'', v3, v4, v5, v6] ∧ ds = [d, d', d'', d3, d4, d5, d6] ∧ ps = p ++ (p' ++ (p'' ++ (p3 ++ (p4 ++ (p5 ++ p6))))) ∧ DataW.Trod enc P w base spare held t v d p ∧ DataW.Trod enc P w base spare held t' v' d' p' ∧ DataW.Trod enc P w base spare held t'' v'' d'' p'' ∧ DataW.Trod enc P w base spare held t3 v3 d3 p3 ∧ DataW.Trod enc P w base spare held t4 v4 d4 p4 ∧ DataW.Trod enc P w base spare held t5 v5 d5 p5 ∧ DataW.Trod enc P w base spare held t6 v6 d6 p6 := by
  obtain ⟨v, vs, d, ds', p, q, hargs, rfl, rfl, hd, hrest⟩ := trodAll_cons h
  obtain ⟨v', vs', d', ds'', p', q', rfl, rfl, rfl, hd', hrest'⟩ := trodAll_cons hrest
  obtain ⟨v'', vs'', d'', ds3, p'', q'', rfl, rfl, rfl, hd'', hrest''⟩ := trodAll_cons hrest'
  obtain ⟨v3, vs3, d3, ds4, p3, q3, rfl, rfl, rfl, hd3, hrest3⟩ := trodAll_cons hrest''
  obtain ⟨v4, vs4, d4, ds5, p4, q4, rfl, rfl, rfl, hd4, hrest4⟩ := trodAll_cons hrest3
  obtain ⟨v5, vs5, d5, ds6, p5, q5, rfl, rfl, rfl, hd5, hrest5⟩ := trodAll_cons hrest4
  obtain ⟨v6, vs6, d6, ds7, p6, q6, rfl, rfl, rfl, hd6, hrest6⟩ := trodAll_cons hrest5
  obtain ⟨rfl, rfl, rfl⟩ := trodAll_nil hrest6
  exact ⟨v, v', v'', v3, v4, v5, v6, d, d', d'', d3, d4, d5, d6, p, p', p'', p3, p4, p5, p6, by cases args; simp_all, rfl, by simp, hd, hd', hd'', hd3, hd4, hd5, hd6⟩
end
end Go.Proofs.Ytgcffdnbihfghaa
