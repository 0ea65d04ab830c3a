/- names.Split at a text whose names are known, and the chapter's examples: 'known' returns true and turns no old memory. -/
import Derived.Test.YtkehpgegghhfpaaDoorSplit
namespace Go.Proofs.YtkehpgegghhfpaaDoor
open Go.RowKit

theorem Ls_inj {xs ys : List ByteArray} (h : Ls xs = Ls ys) : xs = ys := by
  induction xs generalizing ys with
  | nil => cases ys with
    | nil => rfl
    | cons y t => simp [Ls] at h
  | cons x s ih => cases ys with
    | nil => simp [Ls] at h
    | cons y t =>
      simp only [Ls, List.map_cons, List.cons.injEq] at h
      rw [ba_ext h.1, ih h.2]
/-- names.Split, where the error and the names are known ahead. -/
theorem split_of (s : ByteArray) (ys : List ByteArray) (E : Int) (w : World) (hs : s.size < 4294967281) (hm : MaxOk w) (hE : splE s.data.toList = E) (hL : splL s.data.toList = Ls ys) :
    Calls Tryd.prog 15 #[.string s] w fun e w' => ∃ (p : Option Addr) (c : Nat), e = .returned (.tuple #[.slice p ys.length c, .int .i64 E]) ∧ Strs w' p ys ∧ ys.length ≤ c ∧ Below w.heap.size w w' := by
  refine (split_any s w hs hm).mono ?_
  rintro e w' ⟨p, c, zs, rfl, h1, h2, h3, h4⟩
  obtain rfl := Ls_inj (h1.trans hL)
  exact ⟨p, c, by rw [hE], h2, h3, h4⟩

set_option maxRecDepth 20000 in
set_option maxHeartbeats 1000000 in
theorem known_any (w : World) (hm : MaxOk w) : Calls Tryd.prog 8 #[] w fun e w' => e = .returned (.bool true) ∧ Below w.heap.size w w' := by
  have p1 := split_of ⟨#[47, 97, 47, 98]⟩ [⟨#[97]⟩, ⟨#[98]⟩] 0 w (by decide) hm (by decide +kernel) (by decide +kernel)
  have p2 := fun w1 h => split_of ⟨#[47, 47]⟩ [] 10 w1 (by decide) h (by decide +kernel) (by decide +kernel)
  simp only [List.length_cons, List.length_nil, Nat.reduceAdd] at p1 p2
  go_enter Tryd.func8, Tryd.ntmps8
  go_wp2_with (first | (go_at_call 15; (with_reducible refine Calls.mono p1 ?_); rintro e w1 ⟨p, c, rfl, hst, hc, hb1⟩; obtain ⟨b, o, rfl, hcell⟩ := hst (by simp); have hm1 := hm.below hb1 (Nat.le_refl _); have k0 : w1.cell? ⟨b, o, none⟩ = some (.string ⟨#[97]⟩) := hcell 0 (by simp); have k1 : w1.cell? ⟨b, o + 1, none⟩ = some (.string ⟨#[98]⟩) := hcell 1 (by simp); clear hcell hst) | (go_at_call 15; (with_reducible refine Calls.mono (p2 _ hm1) ?_); rintro e w2 ⟨p, c, rfl, _, hc2, hb2⟩; have hl := block_lt_of_cell k0; rw [← hb2.cell (p := ⟨b, o, none⟩) hl] at k0; rw [← hb2.cell (p := ⟨b, o + 1, none⟩) hl] at k1))


  go_ret
  exact ⟨rfl, hb1.trans (hb2.mono hb1.size)⟩
end Go.Proofs.YtkehpgegghhfpaaDoor
