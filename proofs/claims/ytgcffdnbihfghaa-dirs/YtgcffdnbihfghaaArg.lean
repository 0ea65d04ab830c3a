/- Slices of bytes, numbers, bools, of slices of bytes, and of structs of two numbers and bytes, that came in, as the walks want them. No condition. -/
import Derived.Test.YtgcffdnbihfghaaShut
import Derived.Test.YtgcffdnbihfghaaBase
import Derived.Deep.Slices
namespace Go.Proofs.Ytgcffdnbihfghaa
open Go.ChangeShapes Go.WideShapes Go.ChangeAt Go.RowKit Go.Deep
/-- The numbers zs lie where a slice that came in says. -/
def Ints (w : World) (p : Option Addr) (zs : List Int) : Prop :=
  0 < zs.length → ∃ b o, p = some ⟨b, o, none⟩ ∧ ∀ j, j < zs.length → w.cell? ⟨b, o + j, none⟩ = some (.int .i64 (gi zs j))
theorem Ints.below {w w' : World} {B : Nat} {p : Option Addr} {zs : List Int} (h : Ints w p zs) (hb : Below B w w') (hB : w.heap.size ≤ B) : Ints w' p zs := fun hp => by
  obtain ⟨b, o, rfl, hc⟩ := h hp
  refine ⟨b, o, rfl, fun j hj => ?_⟩
  have h1 := hc j hj
  have h2 := block_lt_of_cell h1
  rw [hb.cell (p := ⟨b, o + j, none⟩) (by simp only at h2 ⊢; omega)]; exact h1
theorem Ints.nil (w : World) (sp : Option Addr) : Ints w sp [] := fun h => by simp at h
section
variable {H : Type} {enc : TypeId × Value → H} {w : World} {base : Nat} {sp : Nat → Bool} {held : Bool} {P : Program}
/-- All of them are bytes. -/
def By (l : List Int) : Prop := ∀ x ∈ l, 0 ≤ x ∧ x < 256
theorem add_plain {ad : Addr} (h : ad.spot = none) (j : Nat) : ad.add j = ⟨ad.block, ad.off + j, none⟩ := by
  obtain ⟨b, o, s⟩ := ad
  simp only at h
  subst h
  by_cases hj : j = 0
  · subst hj; simp [Addr.add]
  · simp [Addr.add, hj]
theorem byte_range {z : Int} (h : (Lit.int .u8 z).wf = true) : 0 ≤ z ∧ z < 256 := by
  have h1 : IntKind.u8.min = 0 := rfl
  have h2 : IntKind.u8.max = 255 := rfl
  simp only [Lit.wf, Bool.and_eq_true, decide_eq_true_eq] at h
  omega
theorem cells_nums {t e : TypeId} (ht : P.underlying t = some (.slice e)) (he : P.underlying e = some (.int .i64)) (hce : P.cellsOf e = 1) {fuel : Nat} {v : Value} {x : DataW H × List MemPlace} (h : DataW.trod enc P w base sp held fuel t [v] = some x) :
    ∃ (a : Option Addr) (cap : Nat) (zs : List Int), v = .slice a zs.length cap ∧ zs.length ≤ cap ∧ cap ≤ maxLen ∧ Ints w a zs := by
  rcases open_ints ht he hce h with ⟨hcs, _⟩ | ⟨ad, len, cap, zs, hcs, _, hl, hm, hz, _, hcell, _⟩
  · simp only [List.cons.injEq, and_true] at hcs
    exact ⟨none, 0, [], hcs, by simp, Nat.zero_le _, Ints.nil _ _⟩
  · simp only [List.cons.injEq, and_true] at hcs
    have hzl : len ≤ zs.length := by rw [hz]; split <;> omega
    have hlen : (zs.take len).length = len := by simp; omega
    refine ⟨some ad, cap, zs.take len, by rw [hlen]; exact hcs, by omega, hm, fun hp => ?_⟩
    have h0 : ad.spot = none := World.cell?_spot (hcell 0 (by omega))
    refine ⟨ad.block, ad.off, by obtain ⟨b, o, s⟩ := ad; simp only at h0; subst h0; rfl, fun j hj => ?_⟩
    have h1 := hcell j (by omega)
    rw [add_plain h0] at h1
    rw [h1]
    have hj' : j < len := by omega
    simp [gi, List.getD, List.getElem?_take_of_lt hj']
theorem cells_bytes {t e : TypeId} (ht : P.underlying t = some (.slice e)) (he : P.underlying e = some (.int .u8)) (hce : P.cellsOf e = 1) {fuel : Nat} {v : Value} {x : DataW H × List MemPlace} (h : DataW.trod enc P w base sp held fuel t [v] = some x) :
    ∃ (a : Option Addr) (cap : Nat) (zs : List Int), v = .slice a zs.length cap ∧ zs.length ≤ cap ∧ cap ≤ maxLen ∧ (a = none → cap = 0 ∧ zs.length = 0) ∧ Bytes w a zs ∧ By zs := by
  rcases open_ints ht he hce h with ⟨hcs, _⟩ | ⟨ad, len, cap, zs, hcs, _, hl, hm, hz, _, hcell, hwf⟩
  · simp only [List.cons.injEq, and_true] at hcs
    exact ⟨none, 0, [], hcs, by simp, Nat.zero_le _, fun _ => ⟨rfl, rfl⟩, Bytes.nil _ _, fun x hx => by simp at hx⟩
  · simp only [List.cons.injEq, and_true] at hcs
    have hzl : len ≤ zs.length := by rw [hz]; split <;> omega
    have hlen : (zs.take len).length = len := by simp; omega
    refine ⟨some ad, cap, zs.take len, by rw [hlen]; exact hcs, by omega, hm, (fun h => by cases h), fun hp => ?_, fun x hx => byte_range (hwf x (List.mem_of_mem_take hx))⟩
    have h0 : ad.spot = none := World.cell?_spot (hcell 0 (by omega))
    refine ⟨ad.block, ad.off, by obtain ⟨b, o, s⟩ := ad; simp only at h0; subst h0; rfl, fun j hj => ?_⟩
    have h1 := hcell j (by omega)
    rw [add_plain h0] at h1
    rw [h1]
    have hj' : j < len := by omega
    simp [gi, List.getD, List.getElem?_take_of_lt hj']
theorem open_bytes {t e : TypeId} (ht : P.underlying t = some (.slice e)) (he : P.underlying e = some (.int .u8)) (hce : P.cellsOf e = 1) {v : Value} {d : DataW H} {p : List MemPlace} {r : Reach} {b0 : Nat} (hv : Value.okWide P w r b0 t v) (h : DataW.Trod enc P w base sp held t v d p) :
    ∃ (a : Option Addr) (cap : Nat) (zs : List Int), v = .slice a zs.length cap ∧ zs.length ≤ cap ∧ cap ≤ maxLen ∧ (a = none → cap = 0 ∧ zs.length = 0) ∧ Bytes w a zs ∧ By zs := by
  obtain ⟨a, len, cap, rfl⟩ := okWide_slice ht hv
  obtain ⟨fuel, hf⟩ := h
  exact cells_bytes ht he hce hf
theorem open_nums {t e : TypeId} (ht : P.underlying t = some (.slice e)) (he : P.underlying e = some (.int .i64)) (hce : P.cellsOf e = 1) {v : Value} {d : DataW H} {p : List MemPlace} {r : Reach} {b0 : Nat} (hv : Value.okWide P w r b0 t v) (h : DataW.Trod enc P w base sp held t v d p) :
    ∃ (a : Option Addr) (cap : Nat) (zs : List Int), v = .slice a zs.length cap ∧ zs.length ≤ cap ∧ cap ≤ maxLen ∧ Ints w a zs := by
  obtain ⟨a, len, cap, rfl⟩ := okWide_slice ht hv
  obtain ⟨fuel, hf⟩ := h
  exact cells_nums ht he hce hf
/-- The bools bs lie where a slice that came in says. -/
def Bools (w : World) (p : Option Addr) (bs : List Bool) : Prop :=
  0 < bs.length → ∃ b o, p = some ⟨b, o, none⟩ ∧ ∀ j, j < bs.length → w.cell? ⟨b, o + j, none⟩ = some (.bool (bs.getD j false))
theorem Bools.below {w w' : World} {B : Nat} {p : Option Addr} {zs : List Bool} (h : Bools w p zs) (hb : Below B w w') (hB : w.heap.size ≤ B) : Bools w' p zs := fun hp => by
  obtain ⟨b, o, rfl, hc⟩ := h hp
  refine ⟨b, o, rfl, fun j hj => ?_⟩
  have h1 := hc j hj
  have h2 := block_lt_of_cell h1
  rw [hb.cell (p := ⟨b, o + j, none⟩) (by simp only at h2 ⊢; omega)]; exact h1
theorem open_bools {t e : TypeId} (ht : P.underlying t = some (.slice e)) (he : P.underlying e = some .bool) (hce : P.cellsOf e = 1) {v : Value} {d : DataW H} {p : List MemPlace} {r : Reach} {b0 : Nat} (hv : Value.okWide P w r b0 t v) (h : DataW.Trod enc P w base sp held t v d p) :
    ∃ (a : Option Addr) (cap : Nat) (bs : List Bool), v = .slice a bs.length cap ∧ bs.length ≤ cap ∧ cap ≤ maxLen ∧ Bools w a bs := by
  obtain ⟨a, len, cap, rfl⟩ := okWide_slice ht hv
  obtain ⟨fuel, hf⟩ := h
  rcases open_slice1 ht hce hf with ⟨hcs, _⟩ | ⟨ad, len', cap', m, n, V, D, Pl, hcs, _, hl, hm, hmm, _, hcell⟩
  · simp only [Value.cells, List.cons.injEq, and_true] at hcs
    exact ⟨none, 0, [], hcs, by simp, Nat.zero_le _, fun h => by simp at h⟩
  · simp only [Value.cells, List.cons.injEq, and_true] at hcs
    have hlm : len' ≤ m := by rw [hmm]; split <;> omega
    obtain ⟨Z, hZ⟩ := choose_lt (α := Bool) (n := len') (p := fun i b => V i = .bool b) (fun i hi => by
      obtain ⟨b, h1, _⟩ := DataW.trod_bool he (hcell i (by omega)).2
      exact ⟨b, by simpa using h1⟩)
    have hlen : ((List.range len').map Z).length = len' := by simp
    refine ⟨some ad, cap', (List.range len').map Z, by rw [hlen]; exact hcs, by omega, hm, fun hp => ?_⟩
    rw [hlen] at hp
    have h0 : ad.spot = none := World.cell?_spot (hcell 0 (by omega)).1
    refine ⟨ad.block, ad.off, by obtain ⟨b, o, s⟩ := ad; simp only at h0; subst h0; rfl, fun j hj => ?_⟩
    rw [hlen] at hj
    have h1 := (hcell j (by omega)).1
    rw [add_plain h0, hZ j hj] at h1
    rw [h1]
    simp [List.getD, hj]
/-- The rows zss of bytes lie where a slice that came in says. -/
def Rows2 (w : World) (p : Option Addr) (zss : List (List Int)) : Prop :=
  0 < zss.length → ∃ b o, p = some ⟨b, o, none⟩ ∧ ∀ j, j < zss.length → ∃ q c, w.cell? ⟨b, o + j, none⟩ = some (.slice q (zss.getD j []).length c) ∧ Bytes w q (zss.getD j []) ∧ (q = none → c = 0 ∧ (zss.getD j []).length = 0) ∧ (zss.getD j []).length ≤ maxLen ∧ By (zss.getD j [])
theorem Bytes.belowB {w w' : World} {B : Nat} {sp : Option Addr} {cs : List Int} (h : Bytes w sp cs) (hb : Below B w w') (hB : w.heap.size ≤ B) : Bytes w' sp cs := h.below (hb.mono hB)
theorem Rows2.below {w w' : World} {B : Nat} {p : Option Addr} {zss : List (List Int)} (h : Rows2 w p zss) (hb : Below B w w') (hB : w.heap.size ≤ B) : Rows2 w' p zss := fun hp => by
  obtain ⟨b, o, rfl, hc⟩ := h hp
  refine ⟨b, o, rfl, fun j hj => ?_⟩
  obtain ⟨q, c, h1, h2, h3⟩ := hc j hj
  have h4 := block_lt_of_cell h1
  exact ⟨q, c, by rw [hb.cell (p := ⟨b, o + j, none⟩) (by simp only at h4 ⊢; omega)]; exact h1, h2.belowB hb hB, h3⟩
theorem open_rows {t u e : TypeId} (ht : P.underlying t = some (.slice u)) (hu : P.underlying u = some (.slice e)) (he : P.underlying e = some (.int .u8)) (hcu : P.cellsOf u = 1) (hce : P.cellsOf e = 1) {v : Value} {d : DataW H} {p : List MemPlace} {r : Reach} {b0 : Nat} (hv : Value.okWide P w r b0 t v) (h : DataW.Trod enc P w base sp held t v d p) :
    ∃ (a : Option Addr) (cap : Nat) (zss : List (List Int)), v = .slice a zss.length cap ∧ zss.length ≤ cap ∧ cap ≤ maxLen ∧ Rows2 w a zss := by
  obtain ⟨a, len, cap, rfl⟩ := okWide_slice ht hv
  obtain ⟨fuel, hf⟩ := h
  rcases open_slice1 ht hcu hf with ⟨hcs, _⟩ | ⟨ad, len', cap', m, n, V, D, Pl, hcs, _, hl, hm, hmm, _, hcell⟩
  · simp only [Value.cells, List.cons.injEq, and_true] at hcs
    exact ⟨none, 0, [], hcs, by simp, Nat.zero_le _, fun h => by simp at h⟩
  · simp only [Value.cells, List.cons.injEq, and_true] at hcs
    have hlm : len' ≤ m := by rw [hmm]; split <;> omega
    obtain ⟨Z, hZ⟩ := choose_lt (α := List Int) (n := len') (p := fun i zs => ∃ (a : Option Addr) (cap : Nat), V i = .slice a zs.length cap ∧ Bytes w a zs ∧ (a = none → cap = 0 ∧ zs.length = 0) ∧ zs.length ≤ maxLen ∧ By zs) (fun i hi => by
      obtain ⟨a, cap, zs, h1, h2, h3, h4, h5, h6⟩ := cells_bytes hu he hce (hcell i (by omega)).2
      exact ⟨zs, a, cap, h1, h5, h4, by omega, h6⟩)
    have hlen : ((List.range len').map Z).length = len' := by simp
    refine ⟨some ad, cap', (List.range len').map Z, by rw [hlen]; exact hcs, by omega, hm, fun hp => ?_⟩
    rw [hlen] at hp
    have h0 : ad.spot = none := World.cell?_spot (hcell 0 (by omega)).1
    refine ⟨ad.block, ad.off, by obtain ⟨b, o, s⟩ := ad; simp only at h0; subst h0; rfl, fun j hj => ?_⟩
    rw [hlen] at hj
    have h1 := (hcell j (by omega)).1
    obtain ⟨q, c, h2, h3⟩ := hZ j hj
    rw [add_plain h0, h2] at h1
    have hg : ((List.range len').map Z).getD j [] = Z j := by simp [List.getD, hj]
    rw [hg]
    exact ⟨q, c, h1, h3⟩
end
theorem int_range {z : Int} (h : (Lit.int .i64 z).wf = true) : -9223372036854775808 ≤ z ∧ z ≤ 9223372036854775807 := by
  have h1 : IntKind.i64.min = -9223372036854775808 := rfl
  have h2 : IntKind.i64.max = 9223372036854775807 := rfl
  simp only [Lit.wf, Bool.and_eq_true, decide_eq_true_eq] at h
  omega
end Go.Proofs.Ytgcffdnbihfghaa
