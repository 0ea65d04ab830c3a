/- Inodes and ids that came in, as the walks want them. No condition. -/
import Derived.Test.YtgcffdnbihfghaaArg
import Derived.Test.YtgcffdnbihfghaaBMath
namespace Go.Proofs.Ytgcffdnbihfghaa
open Go.ChangeShapes Go.WideShapes Go.ChangeAt Go.RowKit Go.Deep
section
variable {H : Type} {enc : TypeId × Value → H} {w : World} {base : Nat} {sp : Nat → Bool} {held : Bool}
theorem at_of_take {l : List Value} {o : Nat} {a : Value} (h : (l.drop o).take 1 = [a]) : l[o]? = some a := by
  have := congrArg (·[0]?) h
  simpa using this
theorem cells_id {fuel : Nat} {cs : List Value} {x : DataW H × List MemPlace} (hl : cs.length = 32) (h : DataW.trod enc Try.prog w base sp held fuel 23 cs = some x) :
    ∃ t : List Int, cs = t.map (Value.int .u8) ∧ t.length = 32 ∧ By t := by
  have c5 : Try.prog.cellsOf 5 = 1 := by kernel_rfl
  obtain ⟨ys, n5, _, _, hyl, hyn, hel⟩ := DataW.trod_array Try.underlying23 h
  have hpt : ∀ j, j < 32 → ∃ z : Int, cs[j]? = some (.int .u8 z) ∧ 0 ≤ z ∧ z < 256 := fun j hj => by
    have h1 := hel j hj
    have hyj : ys[j]? = some ys[j] := List.getElem?_eq_getElem (by omega)
    rw [hyj, c5, Nat.mul_one] at h1
    obtain ⟨z, e, _, hwf⟩ := DataW.trod_int Try.underlying5 h1
    exact ⟨z, at_of_take e, byte_range hwf⟩
  refine ⟨(List.range 32).map (fun j => intOf (cs.getD j undef)), ?_, by simp, fun y hy => ?_⟩
  · apply List.ext_getElem?
    intro i
    by_cases hi : i < 32
    · obtain ⟨z, hz, _⟩ := hpt i hi
      simp [hz, hi, List.getD, intOf]
    · rw [List.getElem?_eq_none (by omega), List.getElem?_eq_none (by simp; omega)]
  · obtain ⟨j, hj, rfl⟩ := List.mem_map.1 hy
    obtain ⟨z, hz, hr⟩ := hpt j (List.mem_range.1 hj)
    simpa [List.getD, hz, intOf] using hr
theorem cells_inode {fuel : Nat} {cs : List Value} {x : DataW H × List MemPlace} (h : DataW.trod enc Try.prog w base sp held fuel 25 cs = some x) :
    ∃ n : Nd, cs = (nc n).toList ∧ n.top.length = 32 ∧ By n.top := by
  obtain ⟨xs, n, _, _, hl, hlen, hfd⟩ := DataW.trod_struct Try.underlying25 h
  have c25 : Try.prog.cellsOf 25 = 35 := by kernel_rfl
  have c3 : Try.prog.cellsOf 3 = 1 := by kernel_rfl
  have c23 : Try.prog.cellsOf 23 = 32 := by kernel_rfl
  rw [c25] at hl
  have h9 : xs.length = 4 := hlen
  have hx : ∀ i, i < 4 → xs[i]? = some (xs.getD i (.nil, [])) := fun i hi => by simp [List.getD, List.getElem?_eq_getElem (show i < xs.length by omega)]
  have f0 : DataW.trod enc Try.prog w base sp held n 3 ((cs.drop 0).take (Try.prog.cellsOf 3)) = _ := (hfd 0 _ rfl).trans (hx 0 (by omega))
  have f1 : DataW.trod enc Try.prog w base sp held n 3 ((cs.drop 1).take (Try.prog.cellsOf 3)) = _ := (hfd 1 _ rfl).trans (hx 1 (by omega))
  have f2 : DataW.trod enc Try.prog w base sp held n 3 ((cs.drop 2).take (Try.prog.cellsOf 3)) = _ := (hfd 2 _ rfl).trans (hx 2 (by omega))
  have f3 : DataW.trod enc Try.prog w base sp held n 23 ((cs.drop 3).take (Try.prog.cellsOf 23)) = _ := (hfd 3 _ rfl).trans (hx 3 (by omega))
  rw [c3] at f0 f1 f2
  rw [c23] at f3
  obtain ⟨z0, e0, _⟩ := DataW.trod_int Try.underlying3 f0
  obtain ⟨z1, e1, _⟩ := DataW.trod_int Try.underlying3 f1
  obtain ⟨z2, e2, _⟩ := DataW.trod_int Try.underlying3 f2
  obtain ⟨t, e3, t1, t2⟩ := cells_id (by simp; omega) f3
  refine ⟨⟨z0, z1, z2, t⟩, ?_, t1, t2⟩
  have a0 := at_of_take e0
  have a1 := at_of_take e1
  have a2 := at_of_take e2
  have a3 : cs.drop 3 = t.map (Value.int .u8) := by rw [← e3, List.take_of_length_le (by simp; omega)]
  match cs, hl with
  | c0 :: c1 :: c2 :: r, _ =>
    simp only [List.getElem?_cons_zero, List.getElem?_cons_succ, Option.some.injEq] at a0 a1 a2
    simp only [List.drop_succ_cons, List.drop_zero] at a3
    simp [nc, a0, a1, a2, a3]
theorem open_inode {v : Value} {d : DataW H} {p : List MemPlace} {r : Reach} {b0 : Nat} (hv : Value.okWide Try.prog w r b0 25 v) (h : DataW.Trod enc Try.prog w base sp held 25 v d p) :
    ∃ n : Nd, v = .agg (nc n) ∧ n.top.length = 32 ∧ By n.top := by
  obtain ⟨cs, rfl, _⟩ := okWide_struct Try.underlying25 hv
  obtain ⟨fuel, hf⟩ := h
  obtain ⟨n, h1, h2⟩ := cells_inode hf
  refine ⟨n, ?_, h2⟩
  have : cs = nc n := Array.toList_inj.1 h1
  rw [this]
end
end Go.Proofs.Ytgcffdnbihfghaa
