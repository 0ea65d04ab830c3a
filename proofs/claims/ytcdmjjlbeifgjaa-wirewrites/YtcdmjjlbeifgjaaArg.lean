/- Messages, slices of numbers and of bytes that came in, as the walks want them. No condition. -/
import Derived.Test.YtcdmjjlbeifgjaaShut
import Derived.Test.YtcdmjjlbeifgjaaMsg
namespace Go.Proofs.Ytcdmjjlbeifgjaa
open Go.ChangeShapes Go.WideShapes Go.ChangeAt Go.RowKit

section
variable {H : Type} {enc : TypeId × Value → H} {w : World} {base : Nat} {sp : Nat → Bool} {held : Bool}
/-- All of them are bytes. -/
def By (l : List Int) : Prop := ∀ x ∈ l, 0 ≤ x ∧ x < 256
theorem add_plain {ad : Addr} (h : ad.spot = none) (j : Nat) : ad.add j = ⟨ad.block, ad.off + j, none⟩ := by
  obtain ⟨b, o, s⟩ := ad
  simp only at h
  subst h
  by_cases hj : j = 0
  · subst hj; simp [Addr.add]
  · simp [Addr.add, hj]
theorem byte_range {z : Int} (h : (Lit.int .u8 z).wf = true) : 0 ≤ z ∧ z < 256 := by
  have h1 : IntKind.u8.min = 0 := rfl
  have h2 : IntKind.u8.max = 255 := rfl
  simp only [Lit.wf, Bool.and_eq_true, decide_eq_true_eq] at h
  omega
theorem cells22 {fuel : Nat} {v : Value} {x : DataW H × List MemPlace} (h : DataW.trod enc Try.prog w base sp held fuel 22 [v] = some x) :
    ∃ (a : Option Addr) (cap : Nat) (zs : List Int), v = .slice a zs.length cap ∧ zs.length ≤ cap ∧ cap ≤ maxLen ∧ Ints w a zs := by
  have c3 : Try.prog.cellsOf 3 = 1 := by kernel_rfl
  rcases open_ints Try.underlying22 Try.underlying3 c3 h with ⟨hcs, _⟩ | ⟨ad, len, cap, zs, hcs, _, hl, hm, hz, _, hcell, _⟩
  · simp only [List.cons.injEq, and_true] at hcs
    exact ⟨none, 0, [], hcs, by simp, Nat.zero_le _, Ints.nil _ _⟩
  · simp only [List.cons.injEq, and_true] at hcs
    have hzl : len ≤ zs.length := by rw [hz]; split <;> omega
    have hlen : (zs.take len).length = len := by simp; omega
    refine ⟨some ad, cap, zs.take len, by rw [hlen]; exact hcs, by omega, hm, fun hp => ?_⟩
    have h0 : ad.spot = none := World.cell?_spot (hcell 0 (by omega))
    refine ⟨ad.block, ad.off, by obtain ⟨b, o, s⟩ := ad; simp only at h0; subst h0; rfl, fun j hj => ?_⟩
    have h1 := hcell j (by omega)
    rw [add_plain h0] at h1
    rw [h1]
    have hj' : j < len := by omega
    simp [gi, List.getD, List.getElem?_take_of_lt hj']
theorem cells25 {fuel : Nat} {v : Value} {x : DataW H × List MemPlace} (h : DataW.trod enc Try.prog w base sp held fuel 25 [v] = some x) :
    ∃ (a : Option Addr) (cap : Nat) (zs : List Int), v = .slice a zs.length cap ∧ zs.length ≤ cap ∧ cap ≤ maxLen ∧ (a = none → cap = 0 ∧ zs.length = 0) ∧ Bytes w a zs ∧ By zs := by
  have c5 : Try.prog.cellsOf 5 = 1 := by kernel_rfl
  rcases open_ints Try.underlying25 Try.underlying5 c5 h with ⟨hcs, _⟩ | ⟨ad, len, cap, zs, hcs, _, hl, hm, hz, _, hcell, hwf⟩
  · simp only [List.cons.injEq, and_true] at hcs
    exact ⟨none, 0, [], hcs, by simp, Nat.zero_le _, fun _ => ⟨rfl, rfl⟩, Bytes.nil _ _, fun x hx => by simp at hx⟩
  · simp only [List.cons.injEq, and_true] at hcs
    have hzl : len ≤ zs.length := by rw [hz]; split <;> omega
    have hlen : (zs.take len).length = len := by simp; omega
    refine ⟨some ad, cap, zs.take len, by rw [hlen]; exact hcs, by omega, hm, (fun h => by cases h), fun hp => ?_, fun x hx => byte_range (hwf x (List.mem_of_mem_take hx))⟩
    have h0 : ad.spot = none := World.cell?_spot (hcell 0 (by omega))
    refine ⟨ad.block, ad.off, by obtain ⟨b, o, s⟩ := ad; simp only at h0; subst h0; rfl, fun j hj => ?_⟩
    have h1 := hcell j (by omega)
    rw [add_plain h0] at h1
    rw [h1]
    have hj' : j < len := by omega
    simp [gi, List.getD, List.getElem?_take_of_lt hj']
theorem open_bytes {v : Value} {d : DataW H} {p : List MemPlace} {r : Reach} {b0 : Nat} (hv : Value.okWide Try.prog w r b0 25 v) (h : DataW.Trod enc Try.prog w base sp held 25 v d p) :
    ∃ (a : Option Addr) (cap : Nat) (zs : List Int), v = .slice a zs.length cap ∧ zs.length ≤ cap ∧ cap ≤ maxLen ∧ (a = none → cap = 0 ∧ zs.length = 0) ∧ Bytes w a zs ∧ By zs := by
  obtain ⟨a, len, cap, rfl⟩ := okWide_slice Try.underlying25 hv
  obtain ⟨fuel, hf⟩ := h
  exact cells25 hf
theorem open_nums {v : Value} {d : DataW H} {p : List MemPlace} {r : Reach} {b0 : Nat} (hv : Value.okWide Try.prog w r b0 22 v) (h : DataW.Trod enc Try.prog w base sp held 22 v d p) :
    ∃ (a : Option Addr) (cap : Nat) (zs : List Int), v = .slice a zs.length cap ∧ zs.length ≤ cap ∧ cap ≤ maxLen ∧ Ints w a zs := by
  obtain ⟨a, len, cap, rfl⟩ := okWide_slice Try.underlying22 hv
  obtain ⟨fuel, hf⟩ := h
  exact cells22 hf
theorem at_of_take {l : List Value} {o : Nat} {a : Value} (h : (l.drop o).take 1 = [a]) : l[o]? = some a := by
  have := congrArg (·[0]?) h
  simpa using this
theorem get_of_take {l : List Value} {o : Nat} (h : o < l.length) : (l.drop o).take 1 = [l[o]] := by
  rw [List.drop_eq_getElem_cons h]; rfl

theorem cells28 {fuel : Nat} {cs : List Value} {x : DataW H × List MemPlace} (h : DataW.trod enc Try.prog w base sp held fuel 28 cs = some x) :
    ∃ (m : M) (lp dp : Option Addr) (lc dc : Nat), cs = (mc m lp lc dp dc).toList ∧ Fld w m lp lc dp dc ∧ lc ≤ maxLen ∧ dc ≤ maxLen ∧ By m.key ∧ By m.data := by
  obtain ⟨xs, n, _, _, hl, hlen, hfd⟩ := DataW.trod_struct Try.underlying28 h
  have c28 : Try.prog.cellsOf 28 = 40 := by kernel_rfl
  have c3 : Try.prog.cellsOf 3 = 1 := by kernel_rfl
  have c4 : Try.prog.cellsOf 4 = 1 := by kernel_rfl
  have c5 : Try.prog.cellsOf 5 = 1 := by kernel_rfl
  have c22 : Try.prog.cellsOf 22 = 1 := by kernel_rfl
  have c24 : Try.prog.cellsOf 24 = 32 := by kernel_rfl
  have c25 : Try.prog.cellsOf 25 = 1 := by kernel_rfl
  have c26 : Try.prog.cellsOf 26 = 1 := by kernel_rfl
  rw [c28] at hl
  have h9 : xs.length = 9 := hlen
  have hx : ∀ i, i < 9 → xs[i]? = some (xs.getD i (.nil, [])) := fun i hi => by simp [List.getD, List.getElem?_eq_getElem (show i < xs.length by omega)]
  have f0 : DataW.trod enc Try.prog w base sp held n 3 ((cs.drop 0).take (Try.prog.cellsOf 3)) = _ := (hfd 0 _ rfl).trans (hx 0 (by omega))
  have f1 : DataW.trod enc Try.prog w base sp held n 3 ((cs.drop 1).take (Try.prog.cellsOf 3)) = _ := (hfd 1 _ rfl).trans (hx 1 (by omega))
  have f2 : DataW.trod enc Try.prog w base sp held n 3 ((cs.drop 2).take (Try.prog.cellsOf 3)) = _ := (hfd 2 _ rfl).trans (hx 2 (by omega))
  have f3 : DataW.trod enc Try.prog w base sp held n 22 ((cs.drop 3).take (Try.prog.cellsOf 22)) = _ := (hfd 3 _ rfl).trans (hx 3 (by omega))
  have f4 : DataW.trod enc Try.prog w base sp held n 4 ((cs.drop 4).take (Try.prog.cellsOf 4)) = _ := (hfd 4 _ rfl).trans (hx 4 (by omega))
  have f5 : DataW.trod enc Try.prog w base sp held n 24 ((cs.drop 5).take (Try.prog.cellsOf 24)) = _ := (hfd 5 _ rfl).trans (hx 5 (by omega))
  have f6 : DataW.trod enc Try.prog w base sp held n 25 ((cs.drop 37).take (Try.prog.cellsOf 25)) = _ := (hfd 6 _ rfl).trans (hx 6 (by omega))
  have f7 : DataW.trod enc Try.prog w base sp held n 3 ((cs.drop 38).take (Try.prog.cellsOf 3)) = _ := (hfd 7 _ rfl).trans (hx 7 (by omega))
  have f8 : DataW.trod enc Try.prog w base sp held n 26 ((cs.drop 39).take (Try.prog.cellsOf 26)) = _ := (hfd 8 _ rfl).trans (hx 8 (by omega))
  rw [c3] at f0 f1 f2 f7
  rw [c22] at f3
  rw [c4] at f4
  rw [c24] at f5
  rw [c25] at f6
  rw [c26] at f8
  obtain ⟨z0, e0, _⟩ := DataW.trod_int Try.underlying3 f0
  obtain ⟨z1, e1, _⟩ := DataW.trod_int Try.underlying3 f1
  obtain ⟨z2, e2, _⟩ := DataW.trod_int Try.underlying3 f2
  obtain ⟨b4, e4, _⟩ := DataW.trod_bool Try.underlying4 f4
  obtain ⟨z7, e7, _⟩ := DataW.trod_int Try.underlying3 f7
  obtain ⟨z8, e8, _⟩ := DataW.trod_int Try.underlying26 f8
  rw [get_of_take (by omega)] at f3 f6
  obtain ⟨lp, lc, zs, e3, l1, l2, l3⟩ := cells22 f3
  obtain ⟨dp, dc, ds, e6, d1, d2, d3, d4, d5⟩ := cells25 f6
  obtain ⟨ys, n5, _, _, hyl, hyn, hel⟩ := DataW.trod_array Try.underlying24 f5
  have hpt : ∀ j, j < 32 → ∃ z : Int, cs[5 + j]? = some (.int .u8 z) ∧ 0 ≤ z ∧ z < 256 := fun j hj => by
    have h1 := hel j hj
    have hyj : ys[j]? = some ys[j] := List.getElem?_eq_getElem (by omega)
    rw [hyj, c5, Nat.mul_one] at h1
    obtain ⟨z, e, _, hwf⟩ := DataW.trod_int Try.underlying5 h1
    refine ⟨z, ?_, byte_range hwf⟩
    have := at_of_take e
    rw [List.getElem?_take_of_lt hj, List.getElem?_drop] at this
    exact this
  refine ⟨⟨z0, z1, z2, zs, b4, (List.range 32).map (fun j => intOf (cs.getD (5 + j) undef)), ds, z7, z8⟩, lp, dp, lc, dc, ?_, ⟨by simp, l3, d4, l1, d1, d3⟩, l2, d2, ?_, d5⟩
  · have hkl : ((List.range 32).map (fun j => intOf (cs.getD (5 + j) undef))).length = 32 := by simp
    apply List.ext_getElem?
    intro i
    have htl : ∀ (a : Array Value) (i : Nat), a.toList[i]? = a[i]? := fun a i => by simp
    rw [htl (mc _ lp lc dp dc) i]
    by_cases h5 : i < 5
    · rcases (by omega : i = 0 ∨ i = 1 ∨ i = 2 ∨ i = 3 ∨ i = 4) with rfl | rfl | rfl | rfl | rfl
      · rw [mc0]; exact at_of_take e0
      · rw [mc1]; exact at_of_take e1
      · rw [mc2]; exact at_of_take e2
      · rw [mc3, List.getElem?_eq_getElem (show 3 < cs.length by omega)]; exact congrArg some e3
      · rw [mc4]; exact at_of_take e4
    · by_cases h37 : i < 37
      · obtain ⟨j, rfl⟩ : ∃ j, i = 5 + j := ⟨i - 5, by omega⟩
        obtain ⟨z, hz, _⟩ := hpt j (by omega)
        rw [mcK hkl (by omega), hz]
        simp [gi, List.getD, hz, intOf, show j < 32 by omega]
      · by_cases h40 : i < 40
        · rcases (by omega : i = 37 ∨ i = 38 ∨ i = 39) with rfl | rfl | rfl
          · rw [mc37 hkl, List.getElem?_eq_getElem (show 37 < cs.length by omega)]; exact congrArg some e6
          · rw [mc38 hkl]; exact at_of_take e7
          · rw [mc39 hkl]; exact at_of_take e8
        · rw [List.getElem?_eq_none (by omega), Array.getElem?_eq_none (by rw [mc_size hkl]; omega)]
  · intro y hy
    obtain ⟨j, hj, rfl⟩ := List.mem_map.1 hy
    obtain ⟨z, hz, hr⟩ := hpt j (List.mem_range.1 hj)
    simpa [List.getD, hz, intOf] using hr
theorem open_msg {v : Value} {d : DataW H} {p : List MemPlace} {r : Reach} {b0 : Nat} (hv : Value.okWide Try.prog w r b0 28 v) (h : DataW.Trod enc Try.prog w base sp held 28 v d p) :
    ∃ (m : M) (lp dp : Option Addr) (lc dc : Nat), v = .agg (mc m lp lc dp dc) ∧ Fld w m lp lc dp dc ∧ lc ≤ maxLen ∧ dc ≤ maxLen ∧ By m.key ∧ By m.data := by
  obtain ⟨cs, rfl, _⟩ := okWide_struct Try.underlying28 hv
  obtain ⟨fuel, hf⟩ := h
  obtain ⟨m, lp, dp, lc, dc, h1, h2⟩ := cells28 hf
  refine ⟨m, lp, dp, lc, dc, ?_, h2⟩
  have : cs = mc m lp lc dp dc := Array.toList_inj.1 h1
  rw [this]
end
end Go.Proofs.Ytcdmjjlbeifgjaa
