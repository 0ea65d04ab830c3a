/- Slices of slices of numbers that came in, as the walks want them. No condition. -/
import Derived.Test.YtgcffdnbihfghaaArgI
import Derived.Deep.Slices
namespace Go.Proofs.Ytgcffdnbihfghaa
open Go.ChangeShapes Go.WideShapes Go.ChangeAt Go.RowKit Go.Deep
section
variable {H : Type} {enc : TypeId × Value → H} {w : World} {base : Nat} {sp : Nat → Bool} {held : Bool}
theorem cells26 {fuel : Nat} {v : Value} {x : DataW H × List MemPlace} (h : DataW.trod enc Try.prog w base sp held fuel 26 [v] = some x) :
    ∃ (a : Option Addr) (cap : Nat) (zs : List Int), v = .slice a zs.length cap ∧ zs.length ≤ cap ∧ cap ≤ maxLen ∧ Ints w a zs := by
  have c3 : Try.prog.cellsOf 3 = 1 := by kernel_rfl
  rcases open_ints Try.underlying26 Try.underlying3 c3 h with ⟨hcs, _⟩ | ⟨ad, len, cap, zs, hcs, _, hl, hm, hz, _, hcell, _⟩
  · simp only [List.cons.injEq, and_true] at hcs
    exact ⟨none, 0, [], hcs, by simp, Nat.zero_le _, fun h => by simp at h⟩
  · simp only [List.cons.injEq, and_true] at hcs
    have hzl : len ≤ zs.length := by rw [hz]; split <;> omega
    have hlen : (zs.take len).length = len := by simp; omega
    refine ⟨some ad, cap, zs.take len, by rw [hlen]; exact hcs, by omega, hm, fun hp => ?_⟩
    have h0 : ad.spot = none := World.cell?_spot (hcell 0 (by omega))
    refine ⟨ad.block, ad.off, by obtain ⟨b, o, s⟩ := ad; simp only at h0; subst h0; rfl, fun j hj => ?_⟩
    have h1 := hcell j (by omega)
    rw [add_plain h0] at h1
    rw [h1]
    have hj' : j < len := by omega
    simp [gi, List.getD, List.getElem?_take_of_lt hj']
/-- The rows of numbers zss lie at the slice's address (where there is one at all). -/
def Ints2 (w : World) (p : Option Addr) (zss : List (List Int)) : Prop :=
  0 < zss.length → ∃ b o, p = some ⟨b, o, none⟩ ∧ ∀ j, j < zss.length → ∃ q c, w.cell? ⟨b, o + j, none⟩ = some (.slice q (zss.getD j []).length c) ∧ Ints w q (zss.getD j []) ∧ (zss.getD j []).length ≤ maxLen
theorem Ints2.below {w w' : World} {B : Nat} {p : Option Addr} {zss : List (List Int)} (h : Ints2 w p zss) (hb : Below B w w') (hB : w.heap.size ≤ B) : Ints2 w' p zss := fun hp => by
  obtain ⟨b, o, rfl, hc⟩ := h hp
  refine ⟨b, o, rfl, fun j hj => ?_⟩
  obtain ⟨q, c, h1, h2, h3⟩ := hc j hj
  have h4 := block_lt_of_cell h1
  exact ⟨q, c, by rw [hb.cell (p := ⟨b, o + j, none⟩) (by simp only at h4 ⊢; omega)]; exact h1, h2.below hb hB, h3⟩
theorem open_nums2 {v : Value} {d : DataW H} {p : List MemPlace} {r : Reach} {b0 : Nat} (hv : Value.okWide Try.prog w r b0 52 v) (h : DataW.Trod enc Try.prog w base sp held 52 v d p) :
    ∃ (a : Option Addr) (cap : Nat) (zss : List (List Int)), v = .slice a zss.length cap ∧ zss.length ≤ cap ∧ cap ≤ maxLen ∧ Ints2 w a zss := by
  obtain ⟨a, len, cap, rfl⟩ := okWide_slice Try.underlying52 hv
  obtain ⟨fuel, hf⟩ := h
  have c26 : Try.prog.cellsOf 26 = 1 := by kernel_rfl
  rcases open_slice1 Try.underlying52 c26 hf with ⟨hcs, _⟩ | ⟨ad, len', cap', m, n, V, D, Pl, hcs, _, hl, hm, hmm, _, hcell⟩
  · simp only [Value.cells, List.cons.injEq, and_true] at hcs
    exact ⟨none, 0, [], hcs, by simp, Nat.zero_le _, fun h => by simp at h⟩
  · simp only [Value.cells, List.cons.injEq, and_true] at hcs
    have hlm : len' ≤ m := by rw [hmm]; split <;> omega
    obtain ⟨Z, hZ⟩ := choose_lt (α := List Int) (n := len') (p := fun i zs => ∃ (a : Option Addr) (cap : Nat), V i = .slice a zs.length cap ∧ zs.length ≤ maxLen ∧ Ints w a zs) (fun i hi => by
      obtain ⟨a, cap, zs, h1, h2, h3, h4⟩ := cells26 (hcell i (by omega)).2
      exact ⟨zs, a, cap, h1, by omega, h4⟩)
    have hlen : ((List.range len').map Z).length = len' := by simp
    refine ⟨some ad, cap', (List.range len').map Z, by rw [hlen]; exact hcs, by omega, hm, fun hp => ?_⟩
    rw [hlen] at hp
    have h0 : ad.spot = none := World.cell?_spot (hcell 0 (by omega)).1
    refine ⟨ad.block, ad.off, by obtain ⟨b, o, s⟩ := ad; simp only at h0; subst h0; rfl, fun j hj => ?_⟩
    rw [hlen] at hj
    have h1 := (hcell j (by omega)).1
    obtain ⟨q, c, h2, h3, h4⟩ := hZ j hj
    rw [add_plain h0, h2] at h1
    have hg : ((List.range len').map Z).getD j [] = Z j := by simp [List.getD, hj]
    rw [hg]
    exact ⟨q, c, h1, h4, h3⟩
end
end Go.Proofs.Ytgcffdnbihfghaa
