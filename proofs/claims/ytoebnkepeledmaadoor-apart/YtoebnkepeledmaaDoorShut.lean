/- How a statement of this seat is made of its walk: arrays of bytes as data, all arguments carried over a call that turns no old memory. No condition. -/
import Derived.Test.YtoebnkepeledmaaDoorLaid
import Derived.Test.YtoebnkepeledmaaDoorOtsC
import Derived.ProofKit
namespace Go.Proofs.YtoebnkepeledmaaDoor
open Go.ChangeShapes Go.WideShapes Go.ChangeAt Go.RowKit

set_option maxRecDepth 20000 in
theorem open_id {H : Type} {enc : TypeId × Value → H} {w : World} {base : Nat} {sp : Nat → Bool} {held : Bool} {r : Reach} {b0 : Nat} {v : Value} {d : DataW H} {p : List MemPlace}
    (hv : Value.okWide Tryd.prog w r b0 24 v) (h : DataW.Trod enc Tryd.prog w base sp held 24 v d p) : ∃ l : List Int, v = .agg (v8 l) ∧ l.length = 32 ∧ In8 l := by
  have hcs : ∃ cs, v = .agg cs ∧ cs.size = Tryd.prog.cellsOf 24 := by
    simp only [Value.okWide, Tryd.underlying24] at hv
    obtain ⟨cs, h1, h2, _⟩ := hv
    exact ⟨cs, h1, h2⟩
  obtain ⟨cs, rfl, hsz⟩ := hcs
  have c5 : Tryd.prog.cellsOf 5 = 1 := by kernel_rfl
  have c23 : Tryd.prog.cellsOf 24 = 32 := by kernel_rfl
  obtain ⟨fuel, hf⟩ := h
  obtain ⟨xs, m, rfl, hx, hlen, hn, hel⟩ := DataW.trod_array Tryd.underlying24 hf
  simp only [Value.cells] at hlen hel
  rw [c5] at hel
  have hpt : ∀ i, i < 32 → ∃ z : Int, cs.toList[i]? = some (.int .u8 z) ∧ 0 ≤ z ∧ z < 256 := fun i hi => by
    have h1 := hel i hi
    have hxi : xs[i]? = some xs[i] := List.getElem?_eq_getElem (by omega)
    rw [hxi] at h1
    obtain ⟨z, e1, _, hwf⟩ := DataW.trod_int Tryd.underlying5 h1
    refine ⟨z, ?_, ?_⟩
    · rw [Nat.mul_one] at e1
      have hl : i < cs.toList.length := by rw [Array.length_toList, hsz, c23]; exact hi
      rw [List.drop_eq_getElem_cons hl] at e1
      simp only [List.take_succ_cons, List.take_zero, List.cons.injEq, and_true] at e1
      rw [List.getElem?_eq_getElem hl, e1]
    · have h1 : IntKind.u8.min = 0 := rfl
      have h2 : IntKind.u8.max = 255 := rfl
      simp only [Lit.wf, Bool.and_eq_true, decide_eq_true_eq] at hwf
      omega
  refine ⟨cs.toList.map (fun c => intOf c), ?_, by simp [hsz, c23], in8_of_all fun x hx => ?_⟩
  · congr 1
    unfold v8
    apply Array.ext
    · simp
    · intro i h1 h2
      obtain ⟨z, hz, _⟩ := hpt i (by rw [hsz, c23] at h1; exact h1)
      have : cs[i] = .int .u8 z := by simpa [Array.getElem?_eq_getElem h1] using hz
      simp [this, intOf]
  · obtain ⟨c, hc, rfl⟩ := List.mem_map.1 hx
    obtain ⟨i, hi, rfl⟩ := List.getElem_of_mem hc
    obtain ⟨z, hz, hb⟩ := hpt i (by simpa [hsz, c23] using hi)
    rw [List.getElem?_eq_getElem hi] at hz
    rw [Option.some.inj hz]; exact hb

set_option maxRecDepth 20000 in
theorem open_name {H : Type} {enc : TypeId × Value → H} {w : World} {base : Nat} {sp : Nat → Bool} {held : Bool} {r : Reach} {b0 : Nat} {v : Value} {d : DataW H} {p : List MemPlace}
    (hv : Value.okWide Tryd.prog w r b0 22 v) (h : DataW.Trod enc Tryd.prog w base sp held 22 v d p) : ∃ l : List Int, v = .agg (v8 l) ∧ l.length = 16 ∧ In8 l := by
  have hcs : ∃ cs, v = .agg cs ∧ cs.size = Tryd.prog.cellsOf 22 := by
    simp only [Value.okWide, Tryd.underlying22] at hv
    obtain ⟨cs, h1, h2, _⟩ := hv
    exact ⟨cs, h1, h2⟩
  obtain ⟨cs, rfl, hsz⟩ := hcs
  have c5 : Tryd.prog.cellsOf 5 = 1 := by kernel_rfl
  have c23 : Tryd.prog.cellsOf 22 = 16 := by kernel_rfl
  obtain ⟨fuel, hf⟩ := h
  obtain ⟨xs, m, rfl, hx, hlen, hn, hel⟩ := DataW.trod_array Tryd.underlying22 hf
  simp only [Value.cells] at hlen hel
  rw [c5] at hel
  have hpt : ∀ i, i < 16 → ∃ z : Int, cs.toList[i]? = some (.int .u8 z) ∧ 0 ≤ z ∧ z < 256 := fun i hi => by
    have h1 := hel i hi
    have hxi : xs[i]? = some xs[i] := List.getElem?_eq_getElem (by omega)
    rw [hxi] at h1
    obtain ⟨z, e1, _, hwf⟩ := DataW.trod_int Tryd.underlying5 h1
    refine ⟨z, ?_, ?_⟩
    · rw [Nat.mul_one] at e1
      have hl : i < cs.toList.length := by rw [Array.length_toList, hsz, c23]; exact hi
      rw [List.drop_eq_getElem_cons hl] at e1
      simp only [List.take_succ_cons, List.take_zero, List.cons.injEq, and_true] at e1
      rw [List.getElem?_eq_getElem hl, e1]
    · have h1 : IntKind.u8.min = 0 := rfl
      have h2 : IntKind.u8.max = 255 := rfl
      simp only [Lit.wf, Bool.and_eq_true, decide_eq_true_eq] at hwf
      omega
  refine ⟨cs.toList.map (fun c => intOf c), ?_, by simp [hsz, c23], in8_of_all fun x hx => ?_⟩
  · congr 1
    unfold v8
    apply Array.ext
    · simp
    · intro i h1 h2
      obtain ⟨z, hz, _⟩ := hpt i (by rw [hsz, c23] at h1; exact h1)
      have : cs[i] = .int .u8 z := by simpa [Array.getElem?_eq_getElem h1] using hz
      simp [this, intOf]
  · obtain ⟨c, hc, rfl⟩ := List.mem_map.1 hx
    obtain ⟨i, hi, rfl⟩ := List.getElem_of_mem hc
    obtain ⟨z, hz, hb⟩ := hpt i (by simpa [hsz, c23] using hi)
    rw [List.getElem?_eq_getElem hi] at hz
    rw [Option.some.inj hz]; exact hb

/-- All arguments, carried over. -/
theorem below_trodAll_any {H : Type} {enc : TypeId × Value → H} {P : Program} (hl : laidOutB P = true) {W W' : World} (hb : Below W.heap.size W W') :
    ∀ {ts : List TypeId} {vs : List Value} {ds : List (DataW H)} {ps : List MemPlace}, (ts.all fun t => P.readableRec t && decide (t < P.types.size)) = true →
      DataW.TrodAll enc P W 0 (fun _ => true) true ts vs ds ps → (∀ x ∈ ps, x.block < W.heap.size) → DataW.TrodAll enc P W' 0 (fun b => decide (b < W.heap.size)) true ts vs ds ps := by
  intro ts
  induction ts with
  | nil =>
    intro vs ds ps _ h _
    obtain ⟨rfl, rfl, rfl⟩ := trodAll_nil h
    exact trodAll_mk0
  | cons t ts ih =>
    intro vs ds ps hr h hlt
    obtain ⟨v, vs, d, ds, p, q, rfl, rfl, rfl, h1, h2⟩ := trodAll_cons h
    simp only [List.all_cons, Bool.and_eq_true, decide_eq_true_eq] at hr
    exact ⟨p, q, Below.trod hl hr.1.1 hr.1.2 h1 hb (fun x hx => hlt x (by simp [hx])), ih (by simpa using hr.2) h2 (fun x hx => hlt x (by simp [hx])), rfl⟩

end Go.Proofs.YtoebnkepeledmaaDoor
