/- Slices of entries that came in, as the walks want them. No condition. -/
import Derived.Test.YtgcffdnbihfghaaArgIds
import Derived.Test.YtgcffdnbihfghaaEnts
import Derived.Deep.Strs
namespace Go.Proofs.Ytgcffdnbihfghaa
open Go.ChangeShapes Go.WideShapes Go.ChangeAt Go.RowKit Go.Deep
section
variable {H : Type} {enc : TypeId × Value → H} {w : World} {base : Nat} {sp : Nat → Bool} {held : Bool}
instance : Inhabited Ent := ⟨zE⟩
theorem cells_ent {fuel : Nat} {cs : List Value} {x : DataW H × List MemPlace} (h : DataW.trod enc Try.prog w base sp held fuel 54 cs = some x) :
    ∃ e : Ent, cs = ec e ∧ e.node.length = 32 ∧ By e.node ∧ e.name.size ≤ maxLen := by
  obtain ⟨xs, n, _, _, hl, hlen, hfd⟩ := DataW.trod_struct Try.underlying54 h
  have c54 : Try.prog.cellsOf 54 = 33 := by kernel_rfl
  have c9 : Try.prog.cellsOf 9 = 1 := by kernel_rfl
  have c23 : Try.prog.cellsOf 23 = 32 := by kernel_rfl
  rw [c54] at hl
  have h9 : xs.length = 2 := hlen
  have hx : ∀ i, i < 2 → xs[i]? = some (xs.getD i (.nil, [])) := fun i hi => by simp [List.getD, List.getElem?_eq_getElem (show i < xs.length by omega)]
  have f0 : DataW.trod enc Try.prog w base sp held n 9 ((cs.drop 0).take (Try.prog.cellsOf 9)) = _ := (hfd 0 _ rfl).trans (hx 0 (by omega))
  have f1 : DataW.trod enc Try.prog w base sp held n 23 ((cs.drop 1).take (Try.prog.cellsOf 23)) = _ := (hfd 1 _ rfl).trans (hx 1 (by omega))
  rw [c9] at f0
  rw [c23] at f1
  obtain ⟨s, e0, hsz⟩ := DataW.trod_string Try.underlying9 f0
  obtain ⟨t, e3, t1, t2⟩ := cells_id (by simp; omega) f1
  refine ⟨⟨s, t⟩, ?_, t1, t2, by first | exact hsz | exact hsz.1 | exact hsz.2⟩
  have a0 := at_of_take e0
  have a3 : cs.drop 1 = t.map (Value.int .u8) := by rw [← e3, List.take_of_length_le (by simp; omega)]
  match cs, hl with
  | c0 :: r, _ =>
    simp only [List.getElem?_cons_zero, Option.some.injEq] at a0
    simp only [List.drop_succ_cons, List.drop_zero] at a3
    simp [ec, a0, a3]
theorem open_ents {v : Value} {d : DataW H} {p : List MemPlace} {r : Reach} {b0 : Nat} (hv : Value.okWide Try.prog w r b0 51 v) (h : DataW.Trod enc Try.prog w base sp held 51 v d p) :
    ∃ (a : Option Addr) (n cap : Nat) (E : List Ent), v = .slice a n cap ∧ n ≤ cap ∧ cap ≤ maxLen ∧ E.length = n ∧ Ents w a E ∧ ∀ e ∈ E, e.node.length = 32 ∧ By e.node ∧ e.name.size ≤ maxLen := by
  obtain ⟨a, len, cap, rfl⟩ := okWide_slice Try.underlying51 hv
  obtain ⟨fuel, hf⟩ := h
  have c54 : Try.prog.cellsOf 54 = 33 := by kernel_rfl
  rcases open_slice Try.underlying51 hf with ⟨hcs, _⟩ | ⟨ad, len', cap', m, n, D, Pl, hcs, _, hl, hm, hmm, _, hcell⟩
  · simp only [Value.cells, List.cons.injEq, and_true] at hcs
    exact ⟨none, 0, 0, [], hcs, Nat.le_refl _, Nat.zero_le _, rfl, fun h => by simp at h, fun x hx => by simp at hx⟩
  · simp only [Value.cells, List.cons.injEq, and_true] at hcs
    have hlm : len' ≤ m := by rw [hmm]; split <;> omega
    rw [c54] at hcell
    have hone : ∀ i, i < len' → ∃ cs', w.cells? base (ad.add (i * 33)) 33 = some cs' ∧ ∃ e : Ent, cs' = ec e ∧ e.node.length = 32 ∧ By e.node ∧ e.name.size ≤ maxLen := fun i hi => by
      obtain ⟨cs', h1, h2⟩ := hcell i (by omega)
      exact ⟨cs', h1, cells_ent h2⟩
    have h00 : 0 < len' → ad.spot = none := fun h0 => by
      obtain ⟨cs', h1, e, rfl, ht, _⟩ := hone 0 h0
      obtain ⟨_, _, h5⟩ := World.cells?_some h1
      have h6 := h5 0 (by omega)
      simp only [Nat.zero_mul] at h6
      have h7 : (ad.add 0).add 0 = ad := by unfold Addr.add; simp
      rw [h7] at h6
      exact World.cell?_spot (a := ad) (h6.trans rfl)
    obtain ⟨Z, hZ⟩ := choose_lt (α := Ent) (n := len') (p := fun i e => w.rangeAt ad.block (ad.off + i * 33) (ec e) ∧ e.node.length = 32 ∧ By e.node ∧ e.name.size ≤ maxLen) (fun i hi => by
      obtain ⟨cs', h1, e, rfl, ht, hb⟩ := hone i hi
      obtain ⟨_, _, h5⟩ := World.cells?_some h1
      refine ⟨e, fun j v hj => ?_, ht, hb⟩
      have hj33 : j < 33 := by have := (List.getElem?_eq_some_iff.1 hj).1; rw [ec_len ht] at this; exact this
      have h6 := h5 j hj33
      rw [add_plain (h00 (by omega)), Addr.add_mid] at h6
      rw [h6, hj])
    refine ⟨some ad, len', cap', (List.range len').map Z, hcs, by omega, hm, by simp, fun hp => ?_, fun x hx => ?_⟩
    · have h0 := h00 (by simpa using hp)
      refine ⟨ad.block, ad.off, by obtain ⟨b, o, s⟩ := ad; simp only at h0; subst h0; rfl, fun k e hk => ?_⟩
      have hkl : k < len' := by have := (List.getElem?_eq_some_iff.1 hk).1; simpa using this
      rw [List.getElem?_map, List.getElem?_range hkl] at hk
      cases hk
      exact (hZ k hkl).1
    · obtain ⟨k, hk, rfl⟩ := List.mem_map.1 hx
      exact (hZ k (List.mem_range.1 hk)).2
end
end Go.Proofs.Ytgcffdnbihfghaa
