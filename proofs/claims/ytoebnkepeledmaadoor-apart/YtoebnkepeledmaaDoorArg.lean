/- A slice of bytes that came in, as the walks want it; a slice of one's own, cell by cell. No condition. -/
import Derived.Test.YtoebnkepeledmaaDoorLaid
import Derived.Test.YtoebnkepeledmaaDoorApp
namespace Go.Proofs.YtoebnkepeledmaaDoor
open Go.ChangeShapes Go.WideShapes Go.ChangeAt Go.RowKit

set_option maxRecDepth 20000 in
theorem open_bytes {H : Type} {enc : TypeId × Value → H} {w : World} {base : Nat} {sp : Nat → Bool} {held : Bool} {r : Reach} {b0 : Nat} {v : Value} {d : DataW H} {p : List MemPlace}
    (hv : Value.okWide Tryd.prog w r b0 28 v) (h : DataW.Trod enc Tryd.prog w base sp held 28 v d p) :
    ∃ (a : Option Addr) (len cap : Nat) (bs : List Int), v = .slice a len cap ∧ bs.length = len ∧ len ≤ cap ∧ cap ≤ maxLen ∧ (a = none → cap = 0 ∧ len = 0) ∧ Bytes w a bs := by
  obtain ⟨a, len, cap, rfl⟩ := okWide_slice Tryd.underlying28 hv
  obtain ⟨fuel, hf⟩ := h
  have c5 : Tryd.prog.cellsOf 5 = 1 := by kernel_rfl
  rcases open_ints Tryd.underlying28 Tryd.underlying5 c5 hf with ⟨hcs, _⟩ | ⟨ad, len', cap', zs, hcs, _, hl, hm, hz, _, hcell, _⟩
  · simp only [Value.cells, List.cons.injEq, and_true] at hcs
    injection hcs with e1 e2 e3
    subst e1; subst e2; subst e3
    exact ⟨none, 0, 0, [], rfl, rfl, Nat.le_refl _, Nat.zero_le _, fun _ => ⟨rfl, rfl⟩, fun h => by cases h⟩
  · simp only [Value.cells, List.cons.injEq, and_true] at hcs
    injection hcs with e1 e2 e3
    subst e1; subst e2; subst e3
    have hzl : len ≤ zs.length := by rw [hz]; split <;> omega
    refine ⟨some ad, len, cap, zs.take len, rfl, by simp; omega, hl, hm, fun h => (by cases h), fun hp => ?_⟩
    have hp' : 0 < len := by simp at hp; omega
    have h0 : ad.spot = none := World.cell?_spot (hcell 0 (by omega))
    obtain ⟨b, o, s⟩ := ad
    simp only at h0
    subst h0
    refine ⟨b, o, rfl, fun j hj => ?_⟩
    have hj' : j < len := by simp at hj; omega
    have h1 := hcell j (by omega)
    have e : (zs.take len).length = len := by simp; omega
    have e2 : gi (zs.take len) j = zs.getD j 0 := by
      simp [gi, List.getD, List.getElem?_take_of_lt hj']
    rw [e2]
    by_cases hj0 : j = 0
    · subst hj0; simpa [Addr.add] using h1
    · simpa [Addr.add, hj0] using h1

theorem Own8.row {w : World} {B : Nat} {e : TypeId} {sp : Option Addr} {n cap : Nat} {l : List Int} (h : Own8 w B e (.slice sp n cap) l) (hp : 0 < l.length) :
    ∃ g cur, sp = some ⟨g, 0, none⟩ ∧ n ≤ cap ∧ B ≤ g ∧ Row w g e cur ∧ ∀ j, j < l.length → w.cell? ⟨g, j, none⟩ = some (.int .u8 (gi l j)) := by
  have hb := h.bytes hp
  obtain ⟨b, o, e1, hc⟩ := hb
  obtain ⟨hl, h⟩ := h
  rcases h with ⟨_, h0⟩ | ⟨g, cap', cur, hv, hg, hh, hn, _⟩
  · omega
  · injection hv with e2 e4 e5
    subst e2; subst e4; subst e5
    injection e1 with e1; injection e1 with e1 e3
    subst e1; subst e3
    exact ⟨g, cur, rfl, hn, hg, hh, fun j hj => by have := hc j hj; rwa [Nat.zero_add] at this⟩

/-- One byte of a slice of one's own is turned. -/
theorem bytes_set {w : World} {g : Nat} {l : List Int} (j : Nat) (x : Int) (hj : j < l.length) (hc : ∀ i, i < l.length → w.cell? ⟨g, i, none⟩ = some (.int .u8 (gi l i))) :
    Bytes (w.setCell ⟨g, j, none⟩ (.int .u8 x)) (some ⟨g, 0, none⟩) (l.set j x) := fun _ => by
  refine ⟨g, 0, rfl, fun i hi => ?_⟩
  rw [List.length_set] at hi
  rw [Nat.zero_add]
  by_cases h : j = i
  · subst h
    rw [World.cell?_setCell_same _ _ _ (hc j hj)]
    simp [gi, hj]
  · rw [World.cell?_setCell_other _ _ _ _ (fun e => h (by injection e)), hc i hi]
    simp [gi, List.getElem?_set_ne h]
end Go.Proofs.YtoebnkepeledmaaDoor
