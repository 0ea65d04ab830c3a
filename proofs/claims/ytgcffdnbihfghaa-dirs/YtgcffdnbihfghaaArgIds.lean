/- Slices of ids that came in, as the walks want them. No condition. -/
import Derived.Test.YtgcffdnbihfghaaArgI
import Derived.Test.YtgcffdnbihfghaaMem
namespace Go.Proofs.Ytgcffdnbihfghaa
open Go.ChangeShapes Go.WideShapes Go.ChangeAt Go.RowKit Go.Deep
section
variable {H : Type} {enc : TypeId × Value → H} {w : World} {base : Nat} {sp : Nat → Bool} {held : Bool}
theorem open_ids {v : Value} {d : DataW H} {p : List MemPlace} {r : Reach} {b0 : Nat} (hv : Value.okWide Try.prog w r b0 42 v) (h : DataW.Trod enc Try.prog w base sp held 42 v d p) :
    ∃ (a : Option Addr) (n cap : Nat) (F : List Int), v = .slice a n cap ∧ n ≤ cap ∧ cap ≤ maxLen ∧ F.length = 32 * n ∧ Bytes w a F ∧ By F := by
  obtain ⟨a, len, cap, rfl⟩ := okWide_slice Try.underlying42 hv
  obtain ⟨fuel, hf⟩ := h
  have c23 : Try.prog.cellsOf 23 = 32 := by kernel_rfl
  rcases open_slice Try.underlying42 hf with ⟨hcs, _⟩ | ⟨ad, len', cap', m, n, D, Pl, hcs, _, hl, hm, hmm, _, hcell⟩
  · simp only [Value.cells, List.cons.injEq, and_true] at hcs
    exact ⟨none, 0, 0, [], hcs, Nat.le_refl _, Nat.zero_le _, rfl, fun h => by simp at h, fun x hx => by simp at hx⟩
  · simp only [Value.cells, List.cons.injEq, and_true] at hcs
    have hlm : len' ≤ m := by rw [hmm]; split <;> omega
    rw [c23] at hcell
    have hone : ∀ i, i < len' → ∃ cs', w.cells? base (ad.add (i * 32)) 32 = some cs' ∧ ∃ t : List Int, cs' = t.map (Value.int .u8) ∧ t.length = 32 ∧ By t := fun i hi => by
      obtain ⟨cs', h1, h2⟩ := hcell i (by omega)
      have h3 := World.cells?_some h1
      have hl32 : cs'.length = 32 := h3.2.1
      exact ⟨cs', h1, cells_id hl32 h2⟩
    have h00 : 0 < len' → ad.spot = none := fun h0 => by
      obtain ⟨cs', h1, t, rfl, ht, _⟩ := hone 0 h0
      obtain ⟨_, _, h5⟩ := World.cells?_some h1
      have h6 := h5 0 (by omega)
      simp only [Nat.zero_mul] at h6
      have h7 : (ad.add 0).add 0 = ad := by unfold Addr.add; simp
      rw [h7] at h6
      have h8 : (t.map (Value.int .u8))[0]? = some (.int .u8 (gi t 0)) := by simp [gi, show 0 < t.length by omega]
      rw [h8] at h6
      exact World.cell?_spot (a := ad) h6
    obtain ⟨Z, hZ⟩ := choose_lt (α := List Int) (n := len') (p := fun i t => (∀ j, j < 32 → w.cell? ⟨ad.block, ad.off + (i * 32 + j), none⟩ = some (.int .u8 (gi t j))) ∧ t.length = 32 ∧ By t) (fun i hi => by
      obtain ⟨cs', h1, t, rfl, ht, hb⟩ := hone i hi
      obtain ⟨_, _, h5⟩ := World.cells?_some h1
      refine ⟨t, fun j hj => ?_, ht, hb⟩
      have h6 := h5 j hj
      rw [add_plain (h00 (by omega)), Addr.add_mid] at h6
      rw [show ad.off + (i * 32 + j) = ad.off + i * 32 + j by omega, h6]
      simp [gi, show j < t.length by omega])
    have hlen : ((List.range (32 * len')).map (fun k => gi (Z (k / 32)) (k % 32))).length = 32 * len' := by simp
    have hgi : ∀ k, k < 32 * len' → gi ((List.range (32 * len')).map (fun k => gi (Z (k / 32)) (k % 32))) k = gi (Z (k / 32)) (k % 32) := fun k hk => by
      simp only [gi, List.getD_eq_getElem?_getD, List.getElem?_map]
      rw [List.getElem?_range hk]
      simp
    refine ⟨some ad, len', cap', _, hcs, by omega, hm, hlen, fun hp => ?_, fun x hx => ?_⟩
    · rw [hlen] at hp
      have h0 := h00 (by omega)
      refine ⟨ad.block, ad.off, by obtain ⟨b, o, s⟩ := ad; simp only at h0; subst h0; rfl, fun k hk => ?_⟩
      rw [hlen] at hk
      have h1 := (hZ (k / 32) (by omega)).1 (k % 32) (Nat.mod_lt _ (by decide))
      rw [hgi k hk, ← h1, show k / 32 * 32 + k % 32 = k by omega]
    · obtain ⟨k, hk, rfl⟩ := List.mem_map.1 hx
      have hk := List.mem_range.1 hk
      obtain ⟨_, h2, h3⟩ := hZ (k / 32) (by omega)
      exact h3 _ (by simp [gi, h2, Nat.mod_lt])
end
end Go.Proofs.Ytgcffdnbihfghaa
