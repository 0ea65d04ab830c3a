/- The disk of the reference: Crash. No condition but small numbers. -/
import Derived.Test.YtmfcildkkeeneaaRdisk
namespace Go.Proofs.Ytmfcildkkeeneaa
open Go Go.RowKit
theorem rk_cut {w : World} {g cap k : Nat} {sp : Option Addr} {d : D} (r1 : Row w g 48 (rc d sp cap)) (ho1 : Own8 w 0 5 (.slice sp d.bytes.length cap) d.bytes) (hk : k ≤ d.bytes.length) : Row (w.setCell ⟨g, 2, none⟩ (.slice sp k cap)) g 48 (rc { d with bytes := d.bytes.take k } sp cap) ∧ Own8 (w.setCell ⟨g, 2, none⟩ (.slice sp k cap)) 0 5 (.slice sp k cap) (d.bytes.take k) := by
  have hkl : (d.bytes.take k).length = k := by simp; omega
  have h1 := r1.set0 2 (.slice sp k cap)
  have h2 := ho1.front k hk
  refine ⟨?_, dk_set r1 (by decide) h2 2 _⟩
  unfold rc at h1 ⊢
  simp only [hkl]
  exact h1
/-- What the last statements of the reference's Crash leave. -/
theorem rcrash_fin {w w2 : World} {g cap k : Nat} {sp : Option Addr} {d : D} (r2 : Row w2 g 48 (rc d sp cap)) (o2 : Own8 w2 0 5 (.slice sp d.bytes.length cap) d.bytes) (hF : Fr [g] w w2) (hk : d.syn + k ≤ d.bytes.length) :
    Rk ((((w2.setCell ⟨g, 2, none⟩ (.slice sp (d.syn + k) cap)).setCell ⟨g, 1, none⟩ (.int .i64 ((d.syn : Int) + k))).setCell ⟨g, 5, none⟩ (.bool false)).setCell ⟨g, 3, none⟩ (.int .i64 0)) g (bk sp g) { d with syn := d.syn + k, bytes := d.bytes.take (d.syn + k), left := 0, dead := false } ∧
    Fr [g] w ((((w2.setCell ⟨g, 2, none⟩ (.slice sp (d.syn + k) cap)).setCell ⟨g, 1, none⟩ (.int .i64 ((d.syn : Int) + k))).setCell ⟨g, 5, none⟩ (.bool false)).setCell ⟨g, 3, none⟩ (.int .i64 0)) := by
  refine ⟨?_, (((hF.setCell (by simp) _).setCell (by simp) _).setCell (by simp) _).setCell (by simp) _⟩
  obtain ⟨a1, a2⟩ := rk_cut r2 o2 hk
  have a3 := a1.set0 1 (.int .i64 ((d.syn : Int) + k))
  have a4 := dk_set a1 (by decide) a2 1 (.int .i64 ((d.syn : Int) + k))
  have a5 := a3.set0 5 (.bool false)
  have a6 := dk_set a3 (by decide) a4 5 (.bool false)
  have a7 := a5.set0 3 (.int .i64 0)
  have a8 := dk_set a5 (by decide) a6 3 (.int .i64 0)
  have hlen : (d.bytes.take (d.syn + k)).length = d.syn + k := by simp; omega
  refine ⟨sp, cap, ?_, ?_, rfl⟩
  · have h0 : rc { d with syn := d.syn + k, bytes := d.bytes.take (d.syn + k), left := 0, dead := false } sp cap = #[.int .i64 d.room, .int .i64 ((d.syn : Int) + k), .slice sp (d.bytes.take (d.syn + k)).length cap, .int .i64 0, .int .i64 d.ops, .bool false] := by
      simp [rc]
    rw [h0]
    exact a7
  · show Own8 _ 0 5 (.slice sp (d.bytes.take (d.syn + k)).length cap) (d.bytes.take (d.syn + k))
    rw [hlen]
    exact a8
set_option maxRecDepth 20000 in
set_option maxHeartbeats 1000000 in
theorem rcrash_any (d : D) (p : Int) (g h : Nat) (w : World) (hD : Rk w g h d) (hb1 : (d.bytes.length : Int) ≤ 16777216) (hb3 : d.syn ≤ d.bytes.length) :
    Calls Try.prog 18 #[.pointer (some ⟨g, 0, none⟩), .int .i64 p] w fun e w' => e = .returned (.int .i64 (stay d p)) ∧ Rk w' g h (dCrash d p) ∧ Fr [g] w w' := by
  obtain ⟨s1, s2⟩ := stay_le hb3 p
  have e0 : dCrash d p = { d with syn := d.syn + stay d p, bytes := d.bytes.take (d.syn + stay d p), left := 0, dead := false } := rfl
  rw [e0]
  clear e0
  have hn0 : (0 : Int) < (d.bytes.length : Int) - d.syn + 1 := by omega
  have hne : ((d.bytes.length : Int) - d.syn + 1 == 0) = false := by simp; omega
  have hne' : (d.bytes.length : Int) - d.syn + 1 ≠ 0 := by omega
  have hlo := Int.lt_tmod_of_pos p hn0
  have hhi := Int.tmod_lt_of_pos p hn0
  have hng := tmod_neg (a := p) hn0
  have hps := tmod_pos (a := p) hn0
  rw [← s2] at hng hps
  generalize stay d p = k at *
  clear s2
  obtain ⟨sp, cap, hr, ho, rfl⟩ := hD
  have c0 : w.cell? ⟨g, 0, none⟩ = some (.int .i64 d.room) := hr.cell
  have c1 : w.cell? ⟨g, 1, none⟩ = some (.int .i64 d.syn) := hr.cell
  have c2 : w.cell? ⟨g, 2, none⟩ = some (.slice sp d.bytes.length cap) := hr.cell
  have c3 : w.cell? ⟨g, 3, none⟩ = some (.int .i64 d.left) := hr.cell
  have c4 : w.cell? ⟨g, 4, none⟩ = some (.int .i64 d.ops) := hr.cell
  have c5 : w.cell? ⟨g, 5, none⟩ = some (.bool d.dead) := hr.cell
  have f1 := hr.frozen (j := 1)
  have f2 := hr.frozen (j := 2)
  have f3 := hr.frozen (j := 3)
  have f4 := hr.frozen (j := 4)
  have f5 := hr.frozen (j := 5)
  have hcap : d.syn + k ≤ cap := by
    rcases ho.row with ⟨_, _, h3, _⟩ | ⟨_, _, _, _, _, h3⟩
    · rw [h3] at s1; simp at s1; omega
    · omega
  have hfin := fun n => rcrash_fin (w := w) (hr.drewN n) (ho.drewN n) ((Fr.refl [g] w).drewN n) s1
  obtain ⟨m, hm⟩ : ∃ m : Int, p.tmod ((d.bytes.length : Int) - d.syn + 1) = m := ⟨_, rfl⟩
  rw [hm] at hlo hhi hng hps
  by_cases hneg : m < 0
  · have e1 : m + ((d.bytes.length : Int) - d.syn) + 1 = k := by have := hng hneg; omega
    clear hng hps
    go_enter Try.func18, Try.ntmps18
    go_wp2
    go_quiet (fail)
    have c1' : (w.drewN nq).cell? ⟨g, 1, none⟩ = some (.int .i64 d.syn) := (hr.drewN nq).cell
    have c2' : (w.drewN nq).cell? ⟨g, 2, none⟩ = some (.slice sp d.bytes.length cap) := (hr.drewN nq).cell
    clear c0 c1 c2 c3 c4 c5 f1 f2 f3 f4 f5
    have hr1 := hr.drewN nq
    have hfin1 : ∀ n, _ := fun n => rcrash_fin (w := w) (hr1.drewN n) ((ho.drewN nq).drewN n) (((Fr.refl [g] w).drewN nq).drewN n) s1
    clear hr ho hfin
    generalize w.drewN nq = w1 at *
    go_wp2
    cases sp with
    | none =>
      refine wp_region_quiet_tail 12 (by kernel_rfl) (by kernel_rfl) ?_
      simp only [List.take_succ_cons, List.take_zero, List.drop_succ_cons, List.drop_zero]
      repeat (go_big_quiet_step (fail))
      refine wpQuiet_nil ?_
      rintro _ ⟨n3, rfl⟩
      replace hfin1 := hfin1 n3
      replace hr1 := hr1.drewN n3
      clear c1' c2'
      generalize w1.drewN n3 = w3 at *
      have z1 := hr1.frozen (j := 1)
      have z2 := hr1.frozen (j := 2)
      have z3 := hr1.frozen (j := 3)
      have z5 := hr1.frozen (j := 5)
      have y1 : w3.cell? ⟨g, 1, none⟩ = some (.int .i64 d.syn) := hr1.cell
      have y2 : w3.cell? ⟨g, 2, none⟩ = some (.slice none d.bytes.length cap) := hr1.cell
      have y3 : w3.cell? ⟨g, 3, none⟩ = some (.int .i64 d.left) := hr1.cell
      have y5 : w3.cell? ⟨g, 5, none⟩ = some (.bool d.dead) := hr1.cell
      clear hr1
      go_wp2
      go_ret
      exact ⟨rfl, hfin1.1, hfin1.2⟩
    | some ad =>
      refine wp_region_quiet_tail 12 (by kernel_rfl) (by kernel_rfl) ?_
      simp only [List.take_succ_cons, List.take_zero, List.drop_succ_cons, List.drop_zero]
      repeat (go_big_quiet_step (fail))
      refine wpQuiet_nil ?_
      rintro _ ⟨n3, rfl⟩
      replace hfin1 := hfin1 n3
      replace hr1 := hr1.drewN n3
      clear c1' c2'
      generalize w1.drewN n3 = w3 at *
      have z1 := hr1.frozen (j := 1)
      have z2 := hr1.frozen (j := 2)
      have z3 := hr1.frozen (j := 3)
      have z5 := hr1.frozen (j := 5)
      have y1 : w3.cell? ⟨g, 1, none⟩ = some (.int .i64 d.syn) := hr1.cell
      have y2 : w3.cell? ⟨g, 2, none⟩ = some (.slice (some ad) d.bytes.length cap) := hr1.cell
      have y3 : w3.cell? ⟨g, 3, none⟩ = some (.int .i64 d.left) := hr1.cell
      have y5 : w3.cell? ⟨g, 5, none⟩ = some (.bool d.dead) := hr1.cell
      clear hr1
      go_wp2
      go_ret
      exact ⟨rfl, hfin1.1, hfin1.2⟩
  · have e1 : m = k := hps hneg
    subst e1
    clear hng hps hneg
    go_enter Try.func18, Try.ntmps18
    go_wp2
    go_quiet (fail)
    have c1' : (w.drewN nq).cell? ⟨g, 1, none⟩ = some (.int .i64 d.syn) := (hr.drewN nq).cell
    have c2' : (w.drewN nq).cell? ⟨g, 2, none⟩ = some (.slice sp d.bytes.length cap) := (hr.drewN nq).cell
    clear c0 c1 c2 c3 c4 c5 f1 f2 f3 f4 f5
    have hr1 := hr.drewN nq
    have hfin1 : ∀ n, _ := fun n => rcrash_fin (w := w) (hr1.drewN n) ((ho.drewN nq).drewN n) (((Fr.refl [g] w).drewN nq).drewN n) s1
    clear hr ho hfin
    generalize w.drewN nq = w1 at *
    go_wp2
    cases sp with
    | none =>
      refine wp_region_quiet_tail 12 (by kernel_rfl) (by kernel_rfl) ?_
      simp only [List.take_succ_cons, List.take_zero, List.drop_succ_cons, List.drop_zero]
      repeat (go_big_quiet_step (fail))
      refine wpQuiet_nil ?_
      rintro _ ⟨n3, rfl⟩
      replace hfin1 := hfin1 n3
      replace hr1 := hr1.drewN n3
      clear c1' c2'
      generalize w1.drewN n3 = w3 at *
      have z1 := hr1.frozen (j := 1)
      have z2 := hr1.frozen (j := 2)
      have z3 := hr1.frozen (j := 3)
      have z5 := hr1.frozen (j := 5)
      have y1 : w3.cell? ⟨g, 1, none⟩ = some (.int .i64 d.syn) := hr1.cell
      have y2 : w3.cell? ⟨g, 2, none⟩ = some (.slice none d.bytes.length cap) := hr1.cell
      have y3 : w3.cell? ⟨g, 3, none⟩ = some (.int .i64 d.left) := hr1.cell
      have y5 : w3.cell? ⟨g, 5, none⟩ = some (.bool d.dead) := hr1.cell
      clear hr1
      go_wp2
      go_ret
      exact ⟨rfl, hfin1.1, hfin1.2⟩
    | some ad =>
      refine wp_region_quiet_tail 12 (by kernel_rfl) (by kernel_rfl) ?_
      simp only [List.take_succ_cons, List.take_zero, List.drop_succ_cons, List.drop_zero]
      repeat (go_big_quiet_step (fail))
      refine wpQuiet_nil ?_
      rintro _ ⟨n3, rfl⟩
      replace hfin1 := hfin1 n3
      replace hr1 := hr1.drewN n3
      clear c1' c2'
      generalize w1.drewN n3 = w3 at *
      have z1 := hr1.frozen (j := 1)
      have z2 := hr1.frozen (j := 2)
      have z3 := hr1.frozen (j := 3)
      have z5 := hr1.frozen (j := 5)
      have y1 : w3.cell? ⟨g, 1, none⟩ = some (.int .i64 d.syn) := hr1.cell
      have y2 : w3.cell? ⟨g, 2, none⟩ = some (.slice (some ad) d.bytes.length cap) := hr1.cell
      have y3 : w3.cell? ⟨g, 3, none⟩ = some (.int .i64 d.left) := hr1.cell
      have y5 : w3.cell? ⟨g, 5, none⟩ = some (.bool d.dead) := hr1.cell
      clear hr1
      go_wp2
      go_ret
      exact ⟨rfl, hfin1.1, hfin1.2⟩
end Go.Proofs.Ytmfcildkkeeneaa
