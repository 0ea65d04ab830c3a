/- A disk of the program and one of the reference, side by side. No condition but small numbers. -/
import Derived.Test.YtmfcildkkeeneaaClls
import Derived.Test.YtmfcildkkeeneaaRdisk2
namespace Go.Proofs.Ytmfcildkkeeneaa
open Go Go.RowKit
/-- The law began in world W; the program's disk d lies at g, its bytes at h, the reference's r at g2, its bytes at h2: all new, none in another's block. -/
structure Two (W w : World) (g h g2 h2 : Nat) (d r : D) : Prop where
  dk : Dk w g h d
  rk : Rk w g2 h2 r
  below : Below W.heap.size W w
  hg : W.heap.size ≤ g
  hh : W.heap.size ≤ h
  hg2 : W.heap.size ≤ g2
  hh2 : W.heap.size ≤ h2
  n1 : g ≠ g2
  n2 : g ≠ h2
  n3 : h ≠ g2
  n4 : h ≠ h2
theorem Two.left {W w w' : World} {g h h' g2 h2 : Nat} {d d' r : D} (t : Two W w g h g2 h2 d r) (hD : Dk w' g h' d') (hf : Fr [g, h] w w') (hor : h' = h ∨ w.heap.size ≤ h') : Two W w' g h' g2 h2 d' r := by
  have l2 := t.rk.lt
  have hs := t.below.size
  refine ⟨hD, t.rk.fr hf (by simp; exact ⟨t.n1.symm, t.n3.symm⟩) (by simp; exact ⟨t.n2.symm, t.n4.symm⟩), t.below.trans (hf.below (fun k hk => by
    simp only [List.mem_cons, List.not_mem_nil, or_false] at hk
    rcases hk with rfl | rfl
    · exact t.hg
    · exact t.hh) hs), t.hg, ?_, t.hg2, t.hh2, t.n1, t.n2, ?_, ?_⟩
  · rcases hor with rfl | h1
    · exact t.hh
    · omega
  · rcases hor with rfl | h1
    · exact t.n3
    · omega
  · rcases hor with rfl | h1
    · exact t.n4
    · omega
theorem Two.right {W w w' : World} {g h g2 h2 h2' : Nat} {d r r' : D} (t : Two W w g h g2 h2 d r) (hR : Rk w' g2 h2' r') (hf : Fr [g2] w w') (hor : h2' = h2 ∨ h2' = g2 ∨ w.heap.size ≤ h2') : Two W w' g h g2 h2' d r' := by
  have l2 := t.dk.lt
  have hs := t.below.size
  refine ⟨t.dk.fr hf (by simp; exact t.n1) (by simp; exact t.n3), hR, t.below.trans (hf.below (fun k hk => by
    simp only [List.mem_cons, List.not_mem_nil, or_false] at hk
    subst hk
    exact t.hg2) hs), t.hg, t.hh, t.hg2, ?_, t.n1, ?_, t.n3, ?_⟩
  · rcases hor with rfl | rfl | h1
    · exact t.hh2
    · exact t.hg2
    · omega
  · rcases hor with rfl | rfl | h1
    · exact t.n2
    · exact t.n1
    · omega
  · rcases hor with rfl | rfl | h1
    · exact t.n4
    · exact t.n3
    · omega
theorem Two.fr {W w w' : World} {g h g2 h2 m : Nat} {d r : D} (t : Two W w g h g2 h2 d r) (hf : Fr [m] w w') (hm : W.heap.size ≤ m) (h1 : m ≠ g) (h2' : m ≠ h) (h3 : m ≠ g2) (h4 : m ≠ h2) : Two W w' g h g2 h2 d r :=
  ⟨t.dk.fr hf (by simp; exact h1.symm) (by simp; exact h2'.symm), t.rk.fr hf (by simp; exact h3.symm) (by simp; exact h4.symm), t.below.trans (hf.below (fun k hk => by
    simp only [List.mem_cons, List.not_mem_nil, or_false] at hk
    subst hk
    exact hm) t.below.size), t.hg, t.hh, t.hg2, t.hh2, t.n1, t.n2, t.n3, t.n4⟩
theorem Two.later {W w w' : World} {g h g2 h2 : Nat} {d r : D} (t : Two W w g h g2 h2 d r) (hb : Below w.heap.size w w') : Two W w' g h g2 h2 d r :=
  ⟨t.dk.fr (Fr.of_below (l := []) hb) (by simp) (by simp), t.rk.fr (Fr.of_below (l := []) hb) (by simp) (by simp), t.below.trans (hb.mono t.below.size), t.hg, t.hh, t.hg2, t.hh2, t.n1, t.n2, t.n3, t.n4⟩
theorem Two.drewN {W w : World} {g h g2 h2 : Nat} {d r : D} (t : Two W w g h g2 h2 d r) (n : Nat) : Two W (w.drewN n) g h g2 h2 d r := t.later (below_drewN (Below.refl _ _) n)
/-- Both disks say the same. -/
structure Sim (d r : D) : Prop where
  room : r.room = d.room
  bytes : r.bytes = d.bytes
  syn : r.syn = d.syn
  dead : r.dead = d.dead
  ops : r.ops = d.ops
  left : d.dead = false → r.left = d.left
  rl : 0 ≤ r.left ∧ r.left ≤ 9223372036854775807
theorem sim_new (room : Int) : Sim (dNew room) (dNew room) := ⟨rfl, rfl, rfl, rfl, rfl, fun _ => rfl, by show (0 : Int) ≤ 0 ∧ (0 : Int) ≤ _; decide⟩
theorem sim_work {d r : D} (h : Sim d r) (hd : d.dead = false) : (if rOk r then (0 : Int) else 17) = wErr d ∧ Sim (dWork d) (rGoes r) := by
  have hl := h.left hd
  have hrl := h.rl
  by_cases h1 : d.left = 1
  · refine ⟨by simp [rOk, wErr, hl, h1], ?_⟩
    simp only [dWork, rGoes, hl, h1, if_true]
    exact ⟨h.room, h.bytes, h.syn, rfl, h.ops, fun h => (by cases h), (by simp only; omega)⟩
  · refine ⟨by simp [rOk, wErr, hl, h1], ?_⟩
    simp only [dWork, rGoes, hl, h1, if_false]
    refine ⟨h.room, h.bytes, h.syn, h.dead, by simp only [h.ops], fun _ => rfl, ?_⟩
    simp only
    rw [hl] at hrl
    split <;> omega
theorem sim_app {d r : D} (h : Sim d r) (b : List Int) : rErr r b = aErr d b ∧ Sim (dApp d b) (rApp r b) := by
  cases hd : d.dead with
  | true =>
    have hr : r.dead = true := by rw [h.dead, hd]
    refine ⟨by simp [rErr, aErr, hd, hr], ?_⟩
    simp only [dApp, rApp, hd, hr, if_true]
    exact h
  | false =>
    have hr : r.dead = false := by rw [h.dead, hd]
    by_cases hf : (b.length : Int) > d.room - d.bytes.length
    · have hf2 : (r.bytes.length : Int) + b.length > r.room := by rw [h.bytes, h.room]; omega
      refine ⟨by simp only [rErr, aErr, hd, hr, hf, hf2, if_true, if_false, Bool.false_eq_true], ?_⟩
      simp only [dApp, rApp, hd, hr, hf, hf2, if_true, if_false, Bool.false_eq_true]
      exact h
    · have hf2 : ¬ (r.bytes.length : Int) + b.length > r.room := by rw [h.bytes, h.room]; omega
      obtain ⟨k1, k2⟩ := sim_work h hd
      refine ⟨by simp only [rErr, aErr, hd, hr, hf, hf2, if_false, Bool.false_eq_true]; exact k1, ?_⟩
      simp only [dApp, rApp, hd, hr, hf, hf2, if_false, Bool.false_eq_true]
      have e : dWork { room := d.room, bytes := d.bytes ++ b, syn := d.syn, left := d.left, dead := false, ops := d.ops } = { dWork d with bytes := d.bytes ++ b } := by
        unfold dWork
        simp only
        split <;> simp [hd]
      rw [e]
      exact ⟨k2.room, by simp only [h.bytes], k2.syn, k2.dead, k2.ops, k2.left, k2.rl⟩
theorem sim_sync {d r : D} (h : Sim d r) : (if r.dead then 17 else if rOk r then 0 else 17 : Int) = sErr d ∧ Sim (dSync d) (rSync r) := by
  cases hd : d.dead with
  | true =>
    have hr : r.dead = true := by rw [h.dead, hd]
    refine ⟨by simp [sErr, hd, hr], ?_⟩
    simp only [dSync, rSync, hd, hr, if_true]
    exact h
  | false =>
    have hr : r.dead = false := by rw [h.dead, hd]
    obtain ⟨k1, k2⟩ := sim_work h hd
    have hl := h.left hd
    refine ⟨by simp only [sErr, hd, hr, if_false, Bool.false_eq_true]; exact k1, ?_⟩
    simp only [dSync, rSync, hd, hr, hl, if_false, Bool.false_eq_true]
    split
    · exact k2
    · exact ⟨k2.room, k2.bytes, by simp only [h.bytes], k2.dead, k2.ops, k2.left, k2.rl⟩
theorem sim_stop {d r : D} (h : Sim d r) (n : Int) (hn : n ≤ 9223372036854775807) : Sim { d with left := lmax n } { r with left := lmax n } :=
  ⟨h.room, h.bytes, h.syn, h.dead, h.ops, fun _ => rfl, by simp only [lmax]; split <;> omega⟩
theorem sim_crash {d r : D} (h : Sim d r) (p : Int) : stay r p = stay d p ∧ Sim (dCrash d p) (dCrash r p) := by
  have e : stay r p = stay d p := by simp only [stay, h.bytes, h.syn]
  exact ⟨e, h.room, by simp only [dCrash, e, h.bytes, h.syn], by simp only [dCrash, e, h.syn], rfl, h.ops, fun _ => rfl, by simp only [dCrash]; omega⟩
theorem keep_at {w w' : World} {p : Addr} {v : Value} (hb : Below w.heap.size w w') (h : w.cell? p = some v) : w'.cell? p = some v := by
  rw [hb.cell (block_lt_of_cell h)]; exact h
theorem keep_range {w w' : World} {b o : Nat} {vs : List Value} (hb : Below w.heap.size w w') (h : w.rangeAt b o vs) : w'.rangeAt b o vs := fun j v hv => keep_at hb (h j v hv)
theorem info40 : (Try.prog.info? 40).map (·.size) = some 3 := by kernel_rfl
theorem below_row {w : World} {t : TypeId} {cs vs : Array Value} : Below w.heap.size w ((w.alloc (.cells cs t)).setRow w.heap.size vs) := below_setRow ((Below.refl _ _).alloc (Nat.le_refl _) _) (Nat.le_refl _) _
end Go.Proofs.Ytmfcildkkeeneaa
