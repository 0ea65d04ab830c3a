/- A slice of calls that came in. No condition. -/
import Derived.Test.YtmfcildkkeeneaaArg
namespace Go.Proofs.Ytmfcildkkeeneaa
open Go.ChangeShapes Go.WideShapes Go.ChangeAt Go.RowKit Go.Deep
/-- One call of a disk. -/
structure Cl where
  kind : Int
  n : Int
  b : List Int
instance : Inhabited Cl := ⟨⟨0, 0, []⟩⟩
/-- The calls cs lie where a slice that came in says. -/
def Clls (w : World) (p : Option Addr) (cs : List Cl) : Prop :=
  0 < cs.length → ∃ b o, p = some ⟨b, o, none⟩ ∧ ∀ j, j < cs.length → ∃ q c, w.rangeAt b (o + j * 3) [.int .i64 (cs.getD j default).kind, .int .i64 (cs.getD j default).n, .slice q (cs.getD j default).b.length c] ∧ Bytes w q (cs.getD j default).b ∧ (q = none → c = 0 ∧ (cs.getD j default).b.length = 0) ∧ (cs.getD j default).b.length ≤ maxLen ∧ -9223372036854775808 ≤ (cs.getD j default).n ∧ (cs.getD j default).n ≤ 9223372036854775807 ∧ By (cs.getD j default).b
section
variable {H : Type} {enc : TypeId × Value → H} {w : World} {base : Nat} {sp : Nat → Bool} {held : Bool}
theorem at_of_take {l : List Value} {o : Nat} {a : Value} (h : (l.drop o).take 1 = [a]) : l[o]? = some a := by
  have := congrArg (·[0]?) h
  simpa using this
theorem get_of_take {l : List Value} {o : Nat} (h : o < l.length) : (l.drop o).take 1 = [l[o]] := by
  rw [List.drop_eq_getElem_cons h]; rfl
theorem cells33 {fuel : Nat} {cs : List Value} {x : DataW H × List MemPlace} (h : DataW.trod enc Try.prog w base sp held fuel 40 cs = some x) :
    ∃ (c : Cl) (q : Option Addr) (cap : Nat), cs = [.int .i64 c.kind, .int .i64 c.n, .slice q c.b.length cap] ∧ Bytes w q c.b ∧ (q = none → cap = 0 ∧ c.b.length = 0) ∧ c.b.length ≤ maxLen ∧ -9223372036854775808 ≤ c.n ∧ c.n ≤ 9223372036854775807 ∧ By c.b := by
  obtain ⟨xs, n, _, _, hl, hlen, hfd⟩ := DataW.trod_struct Try.underlying40 h
  have c40 : Try.prog.cellsOf 40 = 3 := by kernel_rfl
  have c3 : Try.prog.cellsOf 3 = 1 := by kernel_rfl
  have c38 : Try.prog.cellsOf 38 = 1 := by kernel_rfl
  rw [c40] at hl
  have h9 : xs.length = 3 := hlen
  have hx : ∀ i, i < 3 → xs[i]? = some (xs.getD i (.nil, [])) := fun i hi => by simp [List.getD, List.getElem?_eq_getElem (show i < xs.length by omega)]
  have f0 : DataW.trod enc Try.prog w base sp held n 3 ((cs.drop 0).take (Try.prog.cellsOf 3)) = _ := (hfd 0 _ rfl).trans (hx 0 (by omega))
  have f1 : DataW.trod enc Try.prog w base sp held n 3 ((cs.drop 1).take (Try.prog.cellsOf 3)) = _ := (hfd 1 _ rfl).trans (hx 1 (by omega))
  have f2 : DataW.trod enc Try.prog w base sp held n 38 ((cs.drop 2).take (Try.prog.cellsOf 38)) = _ := (hfd 2 _ rfl).trans (hx 2 (by omega))
  rw [c3] at f0 f1
  rw [c38] at f2
  obtain ⟨z0, e0, _⟩ := DataW.trod_int Try.underlying3 f0
  obtain ⟨z1, e1, _, w1⟩ := DataW.trod_int Try.underlying3 f1
  rw [get_of_take (by omega)] at f2
  obtain ⟨dp, dc, ds, e2, d1, d2, d3, d4, d5⟩ := cells_bytes Try.underlying38 Try.underlying5 (by kernel_rfl) f2
  have hr := int_range w1
  refine ⟨⟨z0, z1, ds⟩, dp, dc, ?_, d4, d3, Nat.le_trans d1 d2, hr.1, hr.2, d5⟩
  apply List.ext_getElem?
  intro i
  by_cases h3 : i < 3
  · rcases (by omega : i = 0 ∨ i = 1 ∨ i = 2) with rfl | rfl | rfl
    · exact at_of_take e0
    · exact at_of_take e1
    · rw [List.getElem?_eq_getElem (show 2 < cs.length by omega)]; exact congrArg some e2
  · rw [List.getElem?_eq_none (by omega), List.getElem?_eq_none (by simp; omega)]
theorem open_calls {v : Value} {d : DataW H} {p : List MemPlace} {r : Reach} {b0 : Nat} (hv : Value.okWide Try.prog w r b0 22 v) (h : DataW.Trod enc Try.prog w base sp held 22 v d p) :
    ∃ (a : Option Addr) (cap : Nat) (cs : List Cl), v = .slice a cs.length cap ∧ cs.length ≤ cap ∧ cap ≤ maxLen ∧ Clls w a cs := by
  obtain ⟨a, len, cap, rfl⟩ := okWide_slice Try.underlying22 hv
  obtain ⟨fuel, hf⟩ := h
  have c40 : Try.prog.cellsOf 40 = 3 := by kernel_rfl
  rcases open_slice Try.underlying22 hf with ⟨hcs, _⟩ | ⟨ad, len', cap', m, n, D, Pl, hcs, _, hl, hm, hmm, _, hcell⟩
  · simp only [Value.cells, List.cons.injEq, and_true] at hcs
    exact ⟨none, 0, [], hcs, by simp, Nat.zero_le _, fun h => by simp at h⟩
  · simp only [Value.cells, List.cons.injEq, and_true] at hcs
    have hlm : len' ≤ m := by rw [hmm]; split <;> omega
    rw [c40] at hcell
    have h00 : 0 < len' → ad.spot = none := fun h0 => by
      obtain ⟨cs', h1, h2⟩ := hcell 0 (by omega)
      obtain ⟨c, q, cap, rfl, _⟩ := cells33 h2
      obtain ⟨_, _, h5⟩ := World.cells?_some h1
      exact World.cell?_spot (a := ad) (by simpa [Addr.add] using h5 0 (by omega))
    obtain ⟨Z, hZ⟩ := choose_lt (α := Cl) (n := len') (p := fun i c => ∃ (q : Option Addr) (cap : Nat), w.rangeAt ad.block (ad.off + i * 3) [.int .i64 c.kind, .int .i64 c.n, .slice q c.b.length cap] ∧ Bytes w q c.b ∧ (q = none → cap = 0 ∧ c.b.length = 0) ∧ c.b.length ≤ maxLen ∧ -9223372036854775808 ≤ c.n ∧ c.n ≤ 9223372036854775807 ∧ By c.b) (fun i hi => by
      obtain ⟨cs', h1, h2⟩ := hcell i (by omega)
      obtain ⟨c, q, cap, rfl, h4⟩ := cells33 h2
      obtain ⟨_, _, h5⟩ := World.cells?_some h1
      refine ⟨c, q, cap, fun j v hv => ?_, h4⟩
      have hj := (List.getElem?_eq_some_iff.1 hv).1
      have h6 := h5 j hj
      rw [add_plain (h00 (by omega)), Addr.add_mid] at h6
      rw [h6]; exact hv)
    have hlen : ((List.range len').map Z).length = len' := by simp
    refine ⟨some ad, cap', (List.range len').map Z, by rw [hlen]; exact hcs, by omega, hm, fun hp => ?_⟩
    rw [hlen] at hp
    have h0 := h00 hp
    refine ⟨ad.block, ad.off, by obtain ⟨b, o, s⟩ := ad; simp only at h0; subst h0; rfl, fun j hj => ?_⟩
    rw [hlen] at hj
    have hg : ((List.range len').map Z).getD j default = Z j := by simp [List.getD, hj]
    rw [hg]
    exact hZ j hj
end
end Go.Proofs.Ytmfcildkkeeneaa
