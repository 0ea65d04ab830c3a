/- A call's own row of entries, cell by cell: stores of one, of a name. No program in it. -/
import Derived.Test.YtgcffdnbihfghaaEncD
namespace Go.Proofs.Ytgcffdnbihfghaa
open Go Go.RowKit
structure EA (w : World) (g : Nat) (E : List Ent) : Prop where
  rng : ∀ i e, E[i]? = some e → w.rangeAt g (i * 33) (ec e)
  here : ∀ i, i < E.length → w.there g (i * 33) 33
theorem EA.ents {w : World} {g : Nat} {E : List Ent} (h : EA w g E) : Ents w (some ⟨g, 0, none⟩) E := fun _ => ⟨g, 0, rfl, fun i e hi => by rw [Nat.zero_add]; exact h.rng i e hi⟩
theorem OwnE.ea {w : World} {B m cap : Nat} {sp : Option Addr} {E : List Ent} (h : OwnE w B (.slice sp m cap) m E) (hok : EntsOk E) (hm : 0 < m) : ∃ g, sp = some ⟨g, 0, none⟩ ∧ B ≤ g ∧ EA w g E ∧ E.length = m := by
  have hl : E.length = m := by
    obtain ⟨h1, _⟩ := h
    rw [flatE_len hok] at h1; omega
  have he := h.ents hok
  obtain ⟨_, h⟩ := h
  rcases h with ⟨_, h0⟩ | ⟨g, cap', cur, hv, hg, hh, _⟩
  · omega
  · injection hv with e1 e2 e3
    subst e1
    obtain ⟨b, o, hb, hc⟩ := he (by omega)
    cases hb
    have hr : ∀ i e, E[i]? = some e → w.rangeAt g (i * 33) (ec e) := fun i e hi => by have := hc i e hi; rwa [Nat.zero_add] at this
    refine ⟨g, rfl, hg, ⟨hr, fun i hi j hj => ?_⟩, hl⟩
    have hi' : E[i]? = some E[i] := List.getElem?_eq_getElem hi
    have h33 := ec_len (hok _ (List.getElem_mem hi)).1
    exact ⟨(hr i _ hi').isSome j (by omega), Row.frozen (t := 54) (vs := cur) hh⟩
theorem EA.set {w : World} {g : Nat} {E : List Ent} (h : EA w g E) {k : Nat} (hk : k < E.length) {e : Ent} (he : e.node.length = 32) (hok : EntsOk E) : EA (w.setCells g (k * 33) (ec e)) g (E.set k e) := by
  have h33 := ec_len he
  refine ⟨fun i f hi => ?_, fun i hi => World.there_setCells (h.here i (by simpa using hi)) _ _ _⟩
  by_cases hik : i = k
  · subst hik
    rw [List.getElem?_set_self hk] at hi
    cases hi
    exact World.rangeAt_setCells_same w g _ _ (by rw [h33]; exact h.here i hk)
  · rw [List.getElem?_set_ne (Ne.symm hik)] at hi
    have hf := ec_len (hok f (List.mem_of_getElem? hi)).1
    exact World.rangeAt_setCells_apart (h.rng i f hi) _ _ _ (.inr (by omega))
theorem EA.name {w : World} {g : Nat} {E : List Ent} (h : EA w g E) {k : Nat} {e : Ent} (hk : E[k]? = some e) (s : ByteArray) (hok : EntsOk E) : EA (w.setCell ⟨g, k * 33, none⟩ (.string s)) g (E.set k ⟨s, e.node⟩) := by
  have hkl : k < E.length := (List.getElem?_eq_some_iff.1 hk).1
  refine ⟨fun i f hi => ?_, fun i hi => World.there_setCells (h.here i (by simpa using hi)) g (k * 33) [.string s]⟩
  by_cases hik : i = k
  · subst hik
    rw [List.getElem?_set_self hkl] at hi
    cases hi
    intro j v hj
    cases j with
    | zero =>
      have hv : v = .string s := by simpa [ec] using hj.symm
      subst hv
      exact World.cell?_setCell_same _ _ _ (range0 (h.rng i e hk))
    | succ j =>
      rw [World.cell?_setCell_other _ _ _ _ (show (⟨g, i * 33, none⟩ : Addr) ≠ ⟨g, i * 33 + (j + 1), none⟩ by simp)]
      exact h.rng i e hk (j + 1) v (by simpa [ec] using hj)
  · rw [List.getElem?_set_ne (Ne.symm hik)] at hi
    have hf := ec_len (hok f (List.mem_of_getElem? hi)).1
    exact World.rangeAt_setCells_apart (h.rng i f hi) g (k * 33) [.string s] (.inr (by rw [hf]; simp; omega))
theorem EA.below {w w' : World} {g B : Nat} {E : List Ent} (h : EA w g E) (hb : Below B w w') (hB : w.heap.size ≤ B) : Ents w' (some ⟨g, 0, none⟩) E := h.ents.below hb hB
/-- Two neighbours exchanged, or alike, rise no more. -/
theorem rise_swap {E : List Ent} {k : Nat} {e f : Ent} (hr : rise E = true) (h1 : E[k]? = some e) (h2 : E[k + 1]? = some f) : rise ((E.set k f).set (k + 1) e) = false := by
  have hl : k + 1 < E.length := (List.getElem?_eq_some_iff.1 h2).1
  refine rise_not (i := k) (e := f) (f := e) ?_ ?_ ?_
  · rw [List.getElem?_set_ne (by omega), List.getElem?_set_self (by omega)]
  · rw [List.getElem?_set_self (by simpa using hl)]
  · exact less_asym (rise_at hr h1 h2)
theorem rise_dup {E : List Ent} {k : Nat} {e : Ent} (h1 : E[k]? = some e) (hl : k + 1 < E.length) : rise (E.set (k + 1) e) = false := by
  refine rise_not (i := k) (e := e) (f := e) ?_ ?_ (less_irr _)
  · rw [List.getElem?_set_ne (by omega)]; exact h1
  · rw [List.getElem?_set_self hl]
theorem chkE_one {E : List Ent} (h : nmE E = 0) (hr : rise E = false) : chkE E = 1 := by rw [chkE, h, hr]; rfl
theorem nmE_bad : ∀ {E : List Ent} {k : Nat} {e : Ent} {z : Int}, (∀ i f, i < k → E[i]? = some f → chk f.name.data.toList = 0) → E[k]? = some e → chk e.name.data.toList = z → z ≠ 0 → nmE E = z
  | [], _, _, _, _, h, _, _ => by simp at h
  | x :: t, 0, e, z, _, h, hz, h0 => by simp at h; subst h; rw [nmE, hz, if_neg h0]
  | x :: t, k + 1, e, z, hg, h, hz, h0 => by
    rw [nmE, if_pos (hg 0 x (by omega) (by simp))]
    exact nmE_bad (k := k) (fun i f hi hf => hg (i + 1) f (by omega) (by simpa using hf)) (by simpa using h) hz h0
theorem chkE_bad {E : List Ent} {z : Int} (h : nmE E = z) (h0 : z ≠ 0) : chkE E = z := by rw [chkE, if_pos (by rw [h]; exact h0), h]
end Go.Proofs.Ytgcffdnbihfghaa
