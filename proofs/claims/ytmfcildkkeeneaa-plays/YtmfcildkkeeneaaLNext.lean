/- A ledger's Next, in the program: what it answers, and what it makes of the disk. -/
import Derived.Test.YtmfcildkkeeneaaLLast
namespace Go.Proofs.Ytmfcildkkeeneaa
open Go Go.RowKit

/-- What Next answers beside the number, and what it makes of the disk. -/
def nE (d : D) (last : Int) : Int := if last = 4294967295 then 16 else wE d (rowL d.bytes (last + 1))
def nD (d : D) (last : Int) : D := if last = 4294967295 then d else wD d (rowL d.bytes (last + 1))
theorem wE_dead {d : D} (h : d.dead = true) (b : List Int) : wE d b = 17 ∧ wD d b = d := by
  have h1 : aErr d b = 17 := by simp [aErr, h]
  have h2 : dApp d b = d := by simp [dApp, h]
  simp [wE, wD, h1, h2]
theorem wErr_two (d : D) : wErr d = 0 ∨ wErr d = 17 := by unfold wErr; split <;> simp
theorem aErr_three (d : D) (b : List Int) : aErr d b = 0 ∨ aErr d b = 17 ∨ (aErr d b = 16 ∧ dApp d b = d) := by
  unfold aErr dApp
  split
  · simp
  · split
    · simp
    · rcases wErr_two d with h | h <;> simp [h]
theorem sErr_two (d : D) : sErr d = 0 ∨ sErr d = 17 := by
  unfold sErr; split
  · simp
  · exact wErr_two d
theorem wE_three (d : D) (b : List Int) : wE d b = 0 ∨ wE d b = 17 ∨ (wE d b = 16 ∧ wD d b = d) := by
  unfold wE wD
  rcases aErr_three d b with h | h | ⟨h, h2⟩
  · rw [if_pos h, if_pos h]
    rcases sErr_two (dApp d b) with h3 | h3 <;> simp [h3]
  · simp [h]
  · simp [h, h2]
theorem dSync_room (d : D) : (dSync d).room = d.room := by
  unfold dSync dWork; repeat (first | split | rfl)
theorem ok_w {d : D} (h : Ok d) (ho : d.ops < 999990) (b : List Int) : Ok (wD d b) := by
  have h1 := ok_app h (show d.ops < 1000000 by omega) b
  unfold wD
  split
  · exact ok_sync h1 (by have := (app_ops d b).2; omega)
  · exact h1
theorem w_ops (d : D) (b : List Int) : d.ops ≤ (wD d b).ops ∧ (wD d b).ops ≤ d.ops + 2 := by
  have h1 := app_ops d b
  have h2 := sync_ops (dApp d b)
  unfold wD
  split <;> omega
theorem ok_n {d : D} (h : Ok d) (ho : d.ops < 999990) (last : Int) : Ok (nD d last) := by
  unfold nD; split
  · exact h
  · exact ok_w h ho _
theorem n_ops (d : D) (last : Int) : d.ops ≤ (nD d last).ops ∧ (nD d last).ops ≤ d.ops + 2 := by
  unfold nD; split
  · omega
  · exact w_ops _ _

set_option maxRecDepth 20000 in
set_option maxHeartbeats 2000000 in
theorem next_any (d : D) (last ops : Int) (a g h : Nat) (w : World) (hL : Row w a 63 (lc g last ops)) (hD : Dk w g h d) (hk : Ok d) (hops : d.ops < 999990) (heq : d.ops = ops) (hl0 : 0 ≤ last) (hl1 : last ≤ 4294967295)
    (E V last' ops' : Int) (d' : D) (hE : nE d last = E) (hd' : nD d last = d') (hV : V = if E = 0 then last + 1 else 0) (hla : last' = if E = 0 then last + 1 else last) (ho' : d'.ops = ops') :
    Calls Try.prog 13 #[.pointer (some ⟨a, 0, none⟩)] w fun e w' => e = .returned (.tuple #[.int .i64 V, .int .i64 E]) ∧ ∃ h', Dk w' g h' d' ∧ Row w' a 63 (lc g last' ops') ∧ Fr [g, h, a] w w' ∧ (h' = h ∨ w.heap.size ≤ h') := by
  have hlast := fun w1 (hl : Row w1 a 63 (lc g last ops)) (hd : Dk w1 g h d) => last_any d last ops a g h w1 hl hd heq
  have hde := fun w1 (hd : Dk w1 g h d) => dead_any d g h w1 hd
  have ha := hD.apart hL (by decide) (by decide)
  have la := hL.lt
  have l1 := hD.lt
  by_cases hm : last = 4294967295
  · have hm' : (last == 4294967295) = true := by simp [hm]
    rw [nE, if_pos hm] at hE
    rw [nD, if_pos hm] at hd'
    subst hE hd'
    rw [if_neg (by decide)] at hV hla
    subst hV hla
    obtain rfl := heq.symm.trans ho'
    clear hm hde
    go_enter Try.func13, Try.ntmps13
    go_wp2_with (go_at_call 21; (with_reducible refine Calls.mono (hlast _ hL hD) ?_); rintro e w1 ⟨rfl, hb1⟩)
    go_ret2
    exact ⟨rfl, h, hD.fr (Fr.of_below (l := []) hb1) (by simp) (by simp), hL.below hb1 la, Fr.of_below hb1, .inl rfl⟩
  · have hm' : (last == 4294967295) = false := by simp [hm]
    rw [nE, if_neg hm] at hE
    rw [nD, if_neg hm] at hd'
    have hwr := fun w1 (hl : Row w1 a 63 (lc g last ops)) (hd : Dk w1 g h d) => write_any d (last + 1) last ops a g h w1 hl hd hk hops
    have hth := wE_three d (rowL d.bytes (last + 1))
    have hwd := fun hdd => wE_dead (d := d) hdd (rowL d.bytes (last + 1))
    rw [hE, hd'] at hth hwd
    rw [hE, hd'] at hwr
    clear hE hd'
    cases hdd : d.dead with
    | true =>
      obtain ⟨rfl, rfl⟩ := hwd hdd
      rw [if_neg (by decide)] at hV hla
      subst hV hla
      obtain rfl := heq.symm.trans ho'
      rw [hdd] at hde
      clear hth hwd hwr
      go_enter Try.func13, Try.ntmps13
      go_wp2_with (first | (go_at_call 21; (with_reducible refine Calls.mono (hlast _ hL hD) ?_); rintro e w1 ⟨rfl, hb1⟩; have hL1 := hL.below hb1 la; have hD1 : Dk w1 g h d' := hD.fr (Fr.of_below (l := []) hb1) (by simp) (by simp); have q0 : w1.cell? ⟨a, 0, none⟩ = some (.pointer (some ⟨g, 0, none⟩)) := hL1.cell) | (go_at_call 23; (with_reducible refine Calls.mono (hde _ hD1) ?_); rintro e w2 ⟨rfl, hw⟩; obtain rfl := hw.symm; clear hw))
      go_ret2
      exact ⟨rfl, h, hD1, hL1, Fr.of_below hb1, .inl rfl⟩
    | false =>
      rw [hdd] at hde
      clear hwd
      have l16 : (16 : Int) = 16 := rfl
      go_enter Try.func13, Try.ntmps13
      go_upto_region 6 with (first | (go_at_call 21; (with_reducible refine Calls.mono (hlast _ hL hD) ?_); rintro e w1 ⟨rfl, hb1⟩; have hL1 := hL.below hb1 la; have hD1 : Dk w1 g h d := hD.fr (Fr.of_below (l := []) hb1) (by simp) (by simp); have q0 : w1.cell? ⟨a, 0, none⟩ = some (.pointer (some ⟨g, 0, none⟩)) := hL1.cell) | (go_at_call 23; (with_reducible refine Calls.mono (hde _ hD1) ?_); rintro e w2 ⟨rfl, hw⟩; obtain rfl := hw.symm; clear hw))
      have hwr1 := hwr _ hL1 hD1
      clear hwr hlast hde q0
      go_upto_region 7 with (go_at_call 26; (with_reducible refine Calls.mono hwr1 ?_); rintro e w3 ⟨rfl, h3, hD3, hF3, hor3⟩)
      have hL3 := hL1.fr hF3 (by simp; exact ha)
      have hs1 := hb1.size
      have hor4 : h3 = h ∨ w.heap.size ≤ h3 := by
        rcases hor3 with h1 | h1
        · exact .inl h1
        · exact .inr (by omega)
      have ha3 : a ≠ h3 := by
        rcases hor4 with h1 | h1
        · rw [h1]; exact ha.2
        · omega
      have hFw : Fr [g, h, a] w w3 := (Fr.of_below (l := [g, h, a]) hb1).trans (hF3.mono (by simp))
      have hop := fun w1 (hd : Dk w1 g h3 d') => ops_any d' g h3 w1 hd
      have q0 : w3.cell? ⟨a, 0, none⟩ = some (.pointer (some ⟨g, 0, none⟩)) := hL3.cell
      have q01 : w3.cell? ⟨a, 1, none⟩ = some (.int .i64 last) := hL3.cell
      have q02 : w3.cell? ⟨a, 2, none⟩ = some (.int .i64 ops) := hL3.cell
      have q1 := hL3.frozen (j := 1)
      have q2 := hL3.frozen (j := 2)
      rw [ho'] at hop
      clear hb1 hor3 hF3 hL1 hD1 hL hD hs1
      have r1 := (hL3.set0 1 (.int .i64 last)).set0 2 (.int .i64 ops')
      have fa : ∀ u1 u2, Fr [a] w3 ((w3.setCell ⟨a, 1, none⟩ u1).setCell ⟨a, 2, none⟩ u2) := fun u1 u2 => ((Fr.refl _ _).setCell (by simp) _).setCell (by simp) _
      rcases hth with rfl | rfl | ⟨rfl, hdd'⟩
      · rw [if_pos rfl] at hV hla
        subst hV hla
        go_upto_region 10 with (go_at_call 25; (with_reducible refine Calls.mono (hop _ hD3) ?_); rintro e w4 ⟨rfl, hw⟩; obtain rfl := hw.symm; clear hw)
        have r1a : Row ((w3.setCell ⟨a, 1, none⟩ (.int .i64 last)).setCell ⟨a, 2, none⟩ (.int .i64 ops')) a 63 (lc g last ops') := r1
        have fa1 := fa (.int .i64 last) (.int .i64 ops')
        clear r1 fa q0 q01 q02 q1 q2
        generalize (w3.setCell ⟨a, 1, none⟩ (.int .i64 last)).setCell ⟨a, 2, none⟩ (.int .i64 ops') = w5 at *
        have c5 : w5.cell? ⟨a, 1, none⟩ = some (.int .i64 last) := r1a.cell
        have q5 := r1a.frozen (j := 1)
        have r2 := r1a.set0 1 (.int .i64 (last + 1))
        have c6 : (w5.setCell ⟨a, 1, none⟩ (.int .i64 (last + 1))).cell? ⟨a, 1, none⟩ = some (.int .i64 (last + 1)) := r2.cell
        have fb : ∀ u3, Fr [a] w3 (w5.setCell ⟨a, 1, none⟩ u3) := fun u3 => fa1.setCell (by simp) _
        go_wp2
        go_ret2
        exact ⟨rfl, h3, hD3.fr (fb _) (by simp; exact ha.1.symm) (by simp; exact ha3.symm), r2, hFw.trans ((fb _).mono (by simp)), hor4⟩
      · rw [if_neg (by decide)] at hV hla
        subst hV hla
        go_wp2_with (go_at_call 25; (with_reducible refine Calls.mono (hop _ hD3) ?_); rintro e w4 ⟨rfl, hw⟩; obtain rfl := hw.symm; clear hw)
        go_ret2
        exact ⟨rfl, h3, hD3.fr (fa _ _) (by simp; exact ha.1.symm) (by simp; exact ha3.symm), r1, hFw.trans ((fa _ _).mono (by simp)), hor4⟩
      · rw [if_neg (by decide)] at hV hla
        subst hV hla
        have he : ops = ops' := by rw [← heq, ← ho', hdd']
        clear heq ho' hdd'
        subst he
        go_wp2
        go_ret2
        exact ⟨rfl, h3, hD3, hL3, hFw, hor4⟩
end Go.Proofs.Ytmfcildkkeeneaa
