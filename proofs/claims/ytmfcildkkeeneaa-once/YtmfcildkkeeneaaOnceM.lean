/- What stays true of a disk and its ledger while numbers are taken, and the power goes: no program in it. -/
import Derived.Test.YtmfcildkkeeneaaLSt
namespace Go.Proofs.Ytmfcildkkeeneaa
open Go Go.RowKit

/-- With power, and room: Next gives the number, or the power goes, and the record stands behind what was synced. -/
theorem next_stop {d : D} {last : Int} (hdd : d.dead = false) (hm : last ≠ 4294967295) (hr : (d.bytes.length : Int) + (lackN d.bytes.length + 8 : Nat) ≤ d.room) :
    (nE d last = 0 ∧ (nD d last).bytes = padL d.bytes ++ recL (last + 1) ∧ (nD d last).syn = (padL d.bytes ++ recL (last + 1)).length ∧ (nD d last).dead = false ∧ (nD d last).room = d.room) ∨
    (nE d last = 17 ∧ (nD d last).bytes = padL d.bytes ++ recL (last + 1) ∧ (nD d last).syn = d.syn ∧ (nD d last).dead = true ∧ (nD d last).room = d.room) := by
  have h1 : ¬ (((rowL d.bytes (last + 1)).length : Int) > d.room - d.bytes.length) := by rw [rowL_len]; omega
  unfold nE nD
  rw [if_neg hm, if_neg hm, ← app_row]
  generalize rowL d.bytes (last + 1) = R at *
  have e1 : aErr d R = wErr d := by simp only [aErr, hdd, h1, if_false, Bool.false_eq_true]
  have e2 : dApp d R = dWork { d with bytes := d.bytes ++ R } := by simp only [dApp, hdd, h1, if_false, Bool.false_eq_true]
  unfold wE wD
  rw [e1, e2]
  by_cases hl : d.left = 1
  · refine .inr ?_
    simp [wErr, hl, dWork]
  · by_cases hl2 : d.left = 2
    · refine .inr ?_
      simp [wErr, hl2, dWork, sErr, dSync, hdd]
    · refine .inl ?_
      have h3 : ¬ ((if 0 < d.left then d.left - 1 else d.left) = 1) := by split <;> omega
      simp [wErr, hl, dWork, sErr, dSync, hdd, h3]

/-- last was answered; the ledger tells lL; C times a number was asked for. -/
structure Iv (d : D) (lL last C : Int) : Prop where
  room : d.room = 10000
  syn : d.syn ≤ d.bytes.length
  kept : last ≤ grL (d.bytes.take d.syn)
  most : ∀ m, d.syn ≤ m → grL (padL (d.bytes.take m)) ≤ C
  cap : lL ≤ C
  up : last ≤ lL
  len : (d.bytes.length : Int) ≤ 15 * C
  ops : 0 ≤ d.ops ∧ d.ops ≤ 2 * C
  live : d.dead = false → d.syn = d.bytes.length
  nn : 0 ≤ last
theorem Iv.mono {d : D} {lL last C C' : Int} (h : Iv d lL last C) (hC : C ≤ C') : Iv d lL last C' :=
  ⟨h.room, h.syn, h.kept, fun m hm => Int.le_trans (h.most m hm) hC, Int.le_trans h.cap hC, h.up, by have := h.len; omega, by have := h.ops; omega, h.live, h.nn⟩
theorem pad_al {b : List Int} (h : b.length % 8 = 0) : padL b = b := by
  unfold padL; rw [show lackN b.length = 0 by unfold lackN; omega]; exact List.append_nil _
/-- A front of what stood, with the next record behind it, filled up with noughts: no more than there was, or than the record says. -/
theorem front_pad {b : List Int} (hb : By b) {n C : Int} (hn : 0 ≤ n ∧ n < 4294967296) (hC : grL (padL b) ≤ C) (hnC : n ≤ C + 1) (m : Nat) (hm : b.length ≤ m) : grL (padL ((padL b ++ recL n).take m)) ≤ C + 1 := by
  have hpl := padL_len b
  have hlk : lackN b.length < 8 := by unfold lackN; omega
  have hpl2 : (padL b).length = b.length + lackN b.length := by simp [padL, zer_length]
  have hg0 := grL_range (by_pad hb)
  by_cases h1 : m ≤ (padL b).length
  · have e : padL ((padL b ++ recL n).take m) = padL b := by
      rw [List.take_append_of_le_length h1]
      by_cases h2 : m = b.length
      · subst h2
        unfold padL
        rw [List.take_left' rfl]
      · have e2 : (padL b).take m = b ++ zer (m - b.length) := by
          unfold padL zer
          rw [List.take_append, List.take_of_length_le (by omega), List.take_replicate, show min (m - b.length) (lackN b.length) = m - b.length by omega]
        rw [e2]
        show (b ++ zer (m - b.length)) ++ zer (lackN (b ++ zer (m - b.length)).length) = b ++ zer (lackN b.length)
        rw [List.length_append, zer_length, List.append_assoc, zer, zer, List.replicate_append_replicate]
        congr 2
        unfold lackN at *
        omega
    rw [e]; omega
  · obtain ⟨j, hj⟩ : ∃ j, m = (padL b).length + j := ⟨m - (padL b).length, by omega⟩
    have e1 : (padL b ++ recL n).take m = padL b ++ (recL n).take j := by
      rw [List.take_append, List.take_of_length_le (by omega)]; congr 2; omega
    rw [e1]
    by_cases h8 : 8 ≤ j
    · rw [List.take_of_length_le (by rw [recL_len]; omega), pad_al (by rw [List.length_append, recL_len]; omega), grL_padrec hb hn]
      unfold mx; split <;> omega
    · have hl3 : (padL b ++ (recL n).take j).length = 8 * ((b.length + 7) / 8) + j := by rw [List.length_append, hpl, List.length_take, recL_len]; omega
      have e2 : padL (padL b ++ (recL n).take j) = padL b ++ ((recL n).take j ++ zer (8 - j)) := by
        show (padL b ++ (recL n).take j) ++ zer (lackN (padL b ++ (recL n).take j).length) = _
        rw [hl3, show lackN (8 * ((b.length + 7) / 8) + j) = 8 - j by unfold lackN; omega, List.append_assoc]
      have hby : By ((recL n).take j ++ zer (8 - j)) := by_app (by_take (recL_by _) j) (by_zer _)
      have hl8 : ((recL n).take j ++ zer (8 - j)).length = 8 := by rw [List.length_append, List.length_take, recL_len, zer_length]; omega
      have := numL_torn hn j (by omega)
      rw [e2, grL_append hby _ (padL b) hpl (by_pad hb), grL_one hl8 hby]
      unfold mx; split <;> omega
theorem iv_next {d : D} {lL last C : Int} (h : Iv d lL last C) (hb : By d.bytes) (hdd : d.dead = false) (hC : C ≤ 600) :
    (nE d lL = 0 ∧ Iv (nD d lL) (lL + 1) (lL + 1) (C + 1) ∧ (nD d lL).dead = false) ∨ (nE d lL = 17 ∧ Iv (nD d lL) lL last (C + 1) ∧ (nD d lL).dead = true) := by
  have hsy := h.live hdd
  have hlk : lackN d.bytes.length < 8 := by unfold lackN; omega
  have h1 := h.len
  have h2 := h.up
  have h3 := h.cap
  have h4 := h.nn
  have h5 := h.ops
  have hno := n_ops d lL
  have hgc : grL (padL d.bytes) ≤ C := by
    have := h.most d.bytes.length (by omega)
    rwa [List.take_of_length_le (Nat.le_refl _)] at this
  have hlen : (padL d.bytes ++ recL (lL + 1)).length = 8 * ((d.bytes.length + 7) / 8 + 1) := by rw [List.length_append, padL_len, recL_len]; omega
  rcases next_stop (d := d) (last := lL) hdd (by omega) (by rw [h.room]; omega) with ⟨e1, e2, e3, e4, e5⟩ | ⟨e1, e2, e3, e4, e5⟩
  · refine .inl ⟨e1, ?_, e4⟩
    have hg := grL_padrec hb (n := lL + 1) (by omega)
    refine ⟨by rw [e5, h.room], by rw [e2, e3]; exact Nat.le_refl _, ?_, ?_, by omega, by omega, by rw [e2, hlen]; omega, by omega, fun _ => by rw [e2, e3], by omega⟩
    · rw [e2, e3, List.take_of_length_le (Nat.le_refl _), hg]
      unfold mx; split <;> omega
    · intro m hm
      rw [e3] at hm
      rw [e2, List.take_of_length_le hm, pad_al (by rw [hlen]; omega), hg]
      unfold mx; split <;> omega
  · refine .inr ⟨e1, ?_, e4⟩
    refine ⟨by rw [e5, h.room], by rw [e2, e3, hlen]; omega, ?_, ?_, by omega, h2, by rw [e2, hlen]; omega, by omega, fun h0 => (by rw [e4] at h0; cases h0), h4⟩
    · rw [e2, e3, hsy]
      have := h.kept
      rw [hsy, List.take_of_length_le (Nat.le_refl _)] at this
      have e6 : (padL d.bytes ++ recL (lL + 1)).take d.bytes.length = d.bytes := by unfold padL; rw [List.append_assoc, List.take_left' rfl]
      rw [e6]; exact this
    · intro m hm
      rw [e2]
      exact front_pad hb (by omega) hgc (by omega) m (by omega)
theorem iv_stop {d : D} {lL last C : Int} (h : Iv d lL last C) (n : Int) : Iv { d with left := n } lL last C := ⟨h.room, h.syn, h.kept, h.most, h.cap, h.up, h.len, h.ops, h.live, h.nn⟩
theorem iv_crash {d : D} {lL last C : Int} (h : Iv d lL last C) (hb : By d.bytes) (p : Int) : Iv (dCrash d p) (grL (dCrash d p).bytes) last C := by
  obtain ⟨s1, s2⟩ := stay_le h.syn p
  have hl : (d.bytes.take (d.syn + stay d p)).length = d.syn + stay d p := by simp; omega
  have hm := h.most (d.syn + stay d p) (by omega)
  have hby := by_take hb (d.syn + stay d p)
  have hge := grL_pad_ge hby
  have hk : last ≤ grL (d.bytes.take (d.syn + stay d p)) := by
    have h1 := grL_take hby d.syn
    rw [List.take_take, Nat.min_eq_left (by omega)] at h1
    exact Int.le_trans h.kept h1
  have hb1 : (dCrash d p).bytes = d.bytes.take (d.syn + stay d p) := rfl
  have hs1 : (dCrash d p).syn = d.syn + stay d p := rfl
  refine ⟨h.room, by rw [hb1, hs1, hl]; exact Nat.le_refl _, ?_, ?_, ?_, ?_, ?_, h.ops, fun _ => by rw [hb1, hs1, hl], h.nn⟩
  · rw [hb1, hs1, List.take_of_length_le (by omega)]; exact hk
  · intro m hm2
    rw [hs1] at hm2
    rw [hb1, List.take_of_length_le (by omega)]; exact hm
  · rw [hb1]; omega
  · rw [hb1]; exact hk
  · rw [hb1, hl]; have := h.len; omega
theorem iv_new : Iv (dNew 10000) 0 0 0 := by
  have h0 : grL [] = 0 := grL_short (show 0 < 8 by decide)
  refine ⟨rfl, Nat.le_refl _, by show (0 : Int) ≤ grL []; rw [h0]; exact Int.le_refl _, fun m _ => ?_, Int.le_refl _, Int.le_refl _, Int.le_refl _, ⟨Int.le_refl _, Int.le_refl _⟩, fun _ => rfl, Int.le_refl _⟩
  show grL (padL (([] : List Int).take m)) ≤ 0
  rw [List.take_nil, pad_al rfl, h0]; exact Int.le_refl _
end Go.Proofs.Ytmfcildkkeeneaa
