/- LedgerTorn returns true and turns no old memory, for any three numbers. No condition. -/
import Derived.Test.YtmfcildkkeeneaaLSt
namespace Go.Proofs.Ytmfcildkkeeneaa
open Go Go.RowKit

/-- All is well, and synced: so many bytes at most, last the greatest number, of records that all are whole. -/
structure Wl (d : D) (last ops : Int) (n : Nat) : Prop where
  dead : d.dead = false
  left : d.left = 0
  room : d.room = 10000
  syn : d.syn = d.bytes.length
  len : d.bytes.length = 8 * n
  gr : grL d.bytes = last
  ops : 0 ≤ d.ops ∧ d.ops ≤ ops
theorem wl_next {d : D} {last ops : Int} {n : Nat} (h : Wl d last ops n) (hb : By d.bytes) (hn : n ≤ 1000) (hl : 0 ≤ last ∧ last < 4294967295) : nE d last = 0 ∧ Wl (nD d last) (last + 1) (ops + 2) (n + 1) := by
  have hlk : lackN d.bytes.length = 0 := by have := h.len; unfold lackN; omega
  have hl1 := h.len
  have ho := h.ops
  obtain ⟨h1, h2⟩ := next_well h.dead h.left (show last ≠ 4294967295 by omega) (by rw [hlk, h.room]; omega)
  have hp : padL d.bytes = d.bytes := by unfold padL; rw [hlk]; exact List.append_nil _
  rw [h2]
  refine ⟨h1, h.dead, h.left, h.room, rfl, ?_, ?_, by show 0 ≤ d.ops + 2 ∧ d.ops + 2 ≤ _; omega⟩
  · show (padL d.bytes ++ recL (last + 1)).length = _
    rw [List.length_append, padL_len, recL_len]; omega
  · show grL (padL d.bytes ++ recL (last + 1)) = _
    rw [grL_padrec hb (by omega), hp, h.gr]
    unfold mx; split <;> omega
theorem wl_new : Wl (dNew 10000) 0 0 0 := ⟨rfl, rfl, rfl, rfl, rfl, grL_short (show 0 < 8 by decide), Int.le_refl _, Int.le_refl _⟩
/-- The power goes at the Sync. -/
theorem torn_next {d : D} {last ops : Int} {n : Nat} (h : Wl d last ops n) (hn : n ≤ 1000) (hl : 0 ≤ last ∧ last < 4294967295) : nE { d with left := lmax 2 } last = 17 ∧ nD { d with left := lmax 2 } last = { d with bytes := d.bytes ++ recL (last + 1), left := 1, dead := true, ops := d.ops + 1 } := by
  have hlk : lackN d.bytes.length = 0 := by have := h.len; unfold lackN; omega
  have hl1 := h.len
  have hr := h.room
  have hm : ¬ last = 4294967295 := by omega
  have hrow : rowL d.bytes (last + 1) = recL (last + 1) := by unfold rowL; rw [hlk]; rfl
  have h1 : ¬ (((recL (last + 1)).length : Int) > d.room - d.bytes.length) := by rw [recL_len, hr]; omega
  have e1 : aErr { d with left := lmax 2 } (recL (last + 1)) = 0 := by
    simp only [aErr, h.dead, h1, if_false, Bool.false_eq_true, wErr]; rfl
  have e2 : dApp { d with left := lmax 2 } (recL (last + 1)) = { d with bytes := d.bytes ++ recL (last + 1), left := 1, dead := false, ops := d.ops + 1 } := by
    simp only [dApp, h.dead, h1, if_false, Bool.false_eq_true, dWork]; rfl
  unfold nE nD wE wD
  rw [if_neg hm, if_neg hm]
  show (if aErr { d with left := lmax 2 } (rowL d.bytes (last + 1)) = 0 then sErr (dApp { d with left := lmax 2 } (rowL d.bytes (last + 1))) else _) = 17 ∧ (if aErr { d with left := lmax 2 } (rowL d.bytes (last + 1)) = 0 then dSync (dApp { d with left := lmax 2 } (rowL d.bytes (last + 1))) else _) = _
  rw [hrow, if_pos e1, if_pos e1, e2]
  exact ⟨rfl, rfl⟩
/-- The disk behind the crash: a front of the last record stays. -/
theorem torn_crash {d : D} {last ops : Int} {n : Nat} (h : Wl d last ops n) (hb : By d.bytes) (hl : 0 ≤ last ∧ last < 4294967295) (p : Int) : ∃ k : Nat, k ≤ 8 ∧ stay { d with bytes := d.bytes ++ recL (last + 1), left := 1, dead := true, ops := d.ops + 1 } p = k ∧ dCrash { d with bytes := d.bytes ++ recL (last + 1), left := 1, dead := true, ops := d.ops + 1 } p = { d with bytes := d.bytes ++ (recL (last + 1)).take k, syn := d.bytes.length + k, left := 0, dead := false, ops := d.ops + 1 } ∧ grL (d.bytes ++ (recL (last + 1)).take k) = if k = 8 then last + 1 else last := by
  obtain ⟨D1, hD1⟩ : ∃ D1 : D, D1 = { d with bytes := d.bytes ++ recL (last + 1), left := 1, dead := true, ops := d.ops + 1 } := ⟨_, rfl⟩
  have hsy : D1.syn = d.bytes.length := by rw [hD1]; exact h.syn
  have hbl : D1.bytes = d.bytes ++ recL (last + 1) := by rw [hD1]
  have hbl8 : D1.bytes.length = d.bytes.length + 8 := by rw [hbl, List.length_append, recL_len]
  obtain ⟨s1, s2⟩ := stay_le (d := D1) (by omega) p
  rw [← hD1]
  have hk8 : stay D1 p ≤ 8 := by omega
  refine ⟨stay D1 p, hk8, rfl, ?_, ?_⟩
  · have e : D1.bytes.take (D1.syn + stay D1 p) = d.bytes ++ (recL (last + 1)).take (stay D1 p) := by
      rw [hbl, hsy, List.take_append, List.take_of_length_le (by omega)]; congr 2; omega
    unfold dCrash
    rw [e, hsy, hD1]
  · generalize stay D1 p = k at *
    have hby := by_take (recL_by (last + 1)) k
    rw [grL_append hby n d.bytes h.len hb, h.gr]
    by_cases hk : k = 8
    · subst hk
      rw [if_pos rfl, show (recL (last + 1)).take 8 = recL (last + 1) from rfl, grL_one (recL_len _) (recL_by _), numL_rec (by omega)]
      unfold mx; split <;> omega
    · rw [if_neg hk, grL_short (by simp [recL_len]; omega)]
      unfold mx; split <;> omega
/-- What is torn, filled up with noughts, says no more than the record. -/
theorem torn_pad {d : D} {last ops : Int} {n : Nat} (h : Wl d last ops n) (hb : By d.bytes) (hl : 0 ≤ last ∧ last < 4294967295) (k : Nat) (hk : k ≤ 8) : grL (padL (d.bytes ++ (recL (last + 1)).take k)) ≤ last + 1 := by
  have hlen : (d.bytes ++ (recL (last + 1)).take k).length = 8 * n + k := by rw [List.length_append, h.len, List.length_take, recL_len]; omega
  by_cases h0 : k = 0
  · subst h0
    have e : padL (d.bytes ++ (recL (last + 1)).take 0) = d.bytes := by
      unfold padL; rw [hlen, show lackN (8 * n + 0) = 0 by unfold lackN; omega]; simp [zer]
    rw [e, h.gr]; omega
  · have e : padL (d.bytes ++ (recL (last + 1)).take k) = d.bytes ++ ((recL (last + 1)).take k ++ zer (8 - k)) := by
      unfold padL; rw [hlen, show lackN (8 * n + k) = 8 - k by unfold lackN; omega, List.append_assoc]
    have hby : By ((recL (last + 1)).take k ++ zer (8 - k)) := by_app (by_take (recL_by _) k) (by_zer _)
    have hl8 : ((recL (last + 1)).take k ++ zer (8 - k)).length = 8 := by rw [List.length_append, List.length_take, recL_len, zer_length]; omega
    have := numL_torn (n := last + 1) (by omega) k hk
    rw [e, grL_append hby n d.bytes h.len hb, h.gr, grL_one hl8 hby]
    unfold mx; split <;> omega
/-- All is well but that the last record may be torn. -/
structure Wt (d : D) (last ops : Int) (n : Nat) : Prop where
  dead : d.dead = false
  left : d.left = 0
  room : d.room = 10000
  len : d.bytes.length ≤ 8 * n
  gr : grL (padL d.bytes) ≤ last + 1
  ops : 0 ≤ d.ops ∧ d.ops ≤ ops
theorem wt_next {d : D} {last ops : Int} {n : Nat} (h : Wt d last ops n) (hb : By d.bytes) (hn : n ≤ 1000) (hl : 0 ≤ last ∧ last < 4294967295) : nE d last = 0 ∧ Wt (nD d last) (last + 1) (ops + 2) (n + 1) ∧ grL (nD d last).bytes = last + 1 ∧ (nD d last).bytes.length % 8 = 0 := by
  have hlk : lackN d.bytes.length < 8 := by unfold lackN; omega
  have hl1 := h.len
  have ho := h.ops
  obtain ⟨h1, h2⟩ := next_well h.dead h.left (show last ≠ 4294967295 by omega) (by rw [h.room]; omega)
  have hlen : (padL d.bytes ++ recL (last + 1)).length = 8 * ((d.bytes.length + 7) / 8 + 1) := by rw [List.length_append, padL_len, recL_len]; omega
  have hg : grL (padL d.bytes ++ recL (last + 1)) = last + 1 := by
    rw [grL_padrec hb (by omega)]
    have := h.gr
    unfold mx; split <;> omega
  have hp : padL (padL d.bytes ++ recL (last + 1)) = padL d.bytes ++ recL (last + 1) := by
    rw [padL, hlen, show lackN (8 * ((d.bytes.length + 7) / 8 + 1)) = 0 by unfold lackN; omega]; exact List.append_nil _
  rw [h2]
  refine ⟨h1, ⟨h.dead, h.left, h.room, ?_, ?_, by show 0 ≤ d.ops + 2 ∧ d.ops + 2 ≤ _; omega⟩, hg, ?_⟩
  · show (padL d.bytes ++ recL (last + 1)).length ≤ _
    rw [hlen]; omega
  · show grL (padL (padL d.bytes ++ recL (last + 1))) ≤ _
    rw [hp, hg]; omega
  · show (padL d.bytes ++ recL (last + 1)).length % 8 = 0
    rw [hlen]; omega
end Go.Proofs.Ytmfcildkkeeneaa
