/- wire.Parse of any bytes; of what was written, of its fronts, and of one byte more. -/
import Derived.Test.YtcdmjjlbeifgjaaParse
import Derived.Test.YtcdmjjlbeifgjaaBack
namespace Go.Proofs.Ytcdmjjlbeifgjaa
open Go.RowKit

theorem parse_any (bs : List Int) (p : Option Addr) (c : Nat) (w : World) (hby : Bytes w p bs) (hl : bs.length ≤ 274877906944) (hy : ∀ x ∈ bs, 0 ≤ x ∧ x < 256) (hpn : p = none → c = 0) (hc : bs.length ≤ c) :
    Calls Try.prog 15 #[.slice p bs.length c] w (Said bs w) := by
  cases bs with
  | nil => exact parse_nil p c w
  | cons k t => exact parse_cons k t p c w hby (by simp only [List.length_cons] at hl; omega) hy hpn hc
theorem enc_row (m : M) (h : encE m = 0) : ∃ r, rowOf m.kind = some r ∧ rowE m r = 0 ∧ encB m = m.kind % 256 :: rowB m r ∧ 1 ≤ m.kind ∧ m.kind ≤ 12 := by
  unfold encE at h
  cases hr : rowOf m.kind with
  | none => rw [hr] at h; cases h
  | some r =>
    rw [hr] at h
    refine ⟨r, rfl, h, by simp only [encB, hr]; rw [if_pos h], ?_⟩
    by_cases hk : 1 ≤ m.kind ∧ m.kind ≤ 12
    · exact hk
    · exfalso
      have : rowOf m.kind = none := by unfold rowOf; repeat (first | rw [if_neg (by omega)] | rfl)
      rw [this] at hr; cases hr
theorem par_back (m : M) (hk : m.key.length = 32) (h : encE m = 0) (r : List Int) (hr : rowOf m.kind = some r) : parE (encB m) = 0 ∧ parM (encB m) = putR m r (mK m.kind) := by
  obtain ⟨r', hr', hE, hB, h1, h12⟩ := enc_row m h
  obtain rfl : r' = r := Option.some.inj (hr'.symm.trans hr)
  have hb := row_back m hk r' (mK m.kind) [] (rowOf_parts _ _ hr) hE
  rw [List.append_nil] at hb
  have hm : m.kind % 256 = m.kind := by omega
  have hpe : parE (encB m) = 0 := by
    rw [hB, hm]
    simp only [parE, hr]
    rw [hb.1, if_pos rfl, hb.2.1]; rfl
  refine ⟨hpe, ?_⟩
  rw [hB, hm] at hpe ⊢
  simp only [parM, hr]
  rw [hpe, if_pos rfl]; exact hb.2.2
theorem par_cut (m : M) (hk : m.key.length = 32) (h : encE m = 0) (j : Nat) (hj : j < (encB m).length) : parE ((encB m).take j) = 8 := by
  obtain ⟨r, hr, hE, hB, h1, h12⟩ := enc_row m h
  have hm : m.kind % 256 = m.kind := by omega
  rw [hB, List.length_cons] at hj
  rw [hB, hm]
  cases j with
  | zero => rfl
  | succ j =>
    rw [List.take_succ_cons]
    simp only [parE, hr]
    rw [row_cut m hk r j (rowOf_parts _ _ hr) hE (by omega)]; rfl
theorem par_more (m : M) (hk : m.key.length = 32) (h : encE m = 0) : parE (encB m ++ [7]) = 9 := by
  obtain ⟨r, hr, hE, hB, h1, h12⟩ := enc_row m h
  have hm : m.kind % 256 = m.kind := by omega
  have hb := row_back m hk r (mK m.kind) [7] (rowOf_parts _ _ hr) hE
  rw [hB, hm, List.cons_append]
  simp only [parE, hr]
  rw [hb.1, if_pos rfl, hb.2.1]; rfl
theorem parM_bad (bs : List Int) (h : parE bs ≠ 0) : parM bs = mK 0 := by
  cases bs with
  | nil => rfl
  | cons k t =>
    simp only [parM]
    split
    · rfl
    · rw [if_neg h]
theorem nbt_by (s : Nat) (n : Int) (j : Nat) : ∀ x ∈ nbt s n j, 0 ≤ x ∧ x < 256 := by
  induction j with
  | zero => intro x hx; simp [nbt] at hx
  | succ j ih =>
    intro x hx
    rw [nbt, List.mem_append] at hx
    rcases hx with hx | hx
    · exact ih x hx
    · simp at hx; subst hx; omega
theorem nb_by (s : Nat) (n : Int) : ∀ x ∈ nb s n, 0 ≤ x ∧ x < 256 := nbt_by s n s
theorem partB_by (p : Int) (m : M) (hk : ∀ x ∈ m.key, 0 ≤ x ∧ x < 256) (hd : ∀ x ∈ m.data, 0 ≤ x ∧ x < 256) : ∀ x ∈ partB p m, 0 ≤ x ∧ x < 256 := by
  intro x hx
  unfold partB at hx
  split at hx
  · split at hx
    · simp at hx; omega
    · exact nb_by _ _ x hx
  split at hx
  · exact nb_by _ _ x hx
  split at hx
  · rcases List.mem_append.1 hx with hx | hx
    · exact nb_by _ _ x hx
    · obtain ⟨y, _, hy⟩ := List.mem_flatMap.1 hx
      exact nb_by _ _ x hy
  split at hx
  · simp at hx; subst hx; split <;> omega
  split at hx
  · exact nb_by _ _ x hx
  split at hx
  · exact hk x hx
  split at hx
  · rcases List.mem_append.1 hx with hx | hx
    · exact nb_by _ _ x hx
    · exact hd x hx
  · exact nb_by _ _ x hx
theorem encB_by (m : M) (hk : ∀ x ∈ m.key, 0 ≤ x ∧ x < 256) (hd : ∀ x ∈ m.data, 0 ≤ x ∧ x < 256) : ∀ x ∈ encB m, 0 ≤ x ∧ x < 256 := by
  intro x hx
  unfold encB at hx
  split at hx
  · simp at hx
  · split at hx
    · rcases List.mem_cons.1 hx with rfl | hx
      · omega
      · obtain ⟨p, _, hp⟩ := List.mem_flatMap.1 hx
        exact partB_by p m hk hd x hp
    · simp at hx
end Go.Proofs.Ytcdmjjlbeifgjaa
