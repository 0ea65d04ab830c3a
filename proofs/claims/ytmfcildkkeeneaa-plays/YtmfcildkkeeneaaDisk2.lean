/- The disk of the program: New, Append, Sync, Crash, Bytes. No condition but small numbers. -/
import Derived.Test.YtmfcildkkeeneaaDisk
namespace Go.Proofs.Ytmfcildkkeeneaa
open Go Go.RowKit
theorem append8f {w : World} {ops : Array Oper} {rest : List Oper} {o : Oper} {a : Act} {Q : Exit → Act → World → Prop} (s x : Operand)
    (ho : o.op = .call { callee := .builtin .append, args := #[s, x], argTypes := #[38, 38] }) (hgd : o.guard = none)
    (B : Nat) (v : Value) (l : List Int) (hs : a.eval s = v) (hown : Own8 w B 5 v l) (sp : Option Addr) (m c : Nat) (cs : List Int) (hx : a.eval x = .slice sp m c) (hm : cs.length = m) (hnil : sp = none → c = 0 ∧ m = 0) (hby : Bytes w sp cs)
    (hlen : l.length + m ≤ 70368744177664) (hB : B ≤ w.heap.size)
    (h : ∀ sp' n' cap' w', n' = (l ++ cs).length → Own8 w' B 5 (.slice sp' n' cap') (l ++ cs) → w.grownBy w' v.ownBlock → ((Value.slice sp' n' cap').ownBlock = v.ownBlock ∨ (Value.slice sp' n' cap').ownBlock = some w.heap.size) → wpList Try.prog ops Q rest (a.put o.dst (.slice sp' n' cap')) w') : wpList Try.prog ops Q (o :: rest) a w := by
  obtain ⟨sp', cap', w', hr, h1, h2, h3⟩ := run8 w o.type B v l hown sp m c cs hm hnil hby hlen hB
  refine wpList_plain hgd fun _ hK => ?_
  unfold Oper.wp
  simp only [execOp, ho, resolve, invoke, builtin, Sem.run_bind, Sem.run_pure, Result.andThen_ok, List.map_toArray, List.map_cons, List.map_nil, hs, hx, hr]
  exact hK _ _ (h sp' _ cap' w' rfl h1 h2 h3)
theorem grown_row {w w' : World} {g B : Nat} {t : TypeId} {vs : Array Value} {v : Value} {l : List Int} (hg : w.grownBy w' v.ownBlock) (hr : Row w g t vs) (ho : Own8 w B 5 v l) (ht : t ≠ 5) : Row w' g t vs := by
  unfold Row
  rw [hg.block g hr.lt (fun e => ?_)]
  · exact hr
  · obtain ⟨sp, cap, rfl⟩ := ho.form
    rcases ho.row with ⟨rfl, _⟩ | ⟨g', cur, rfl, h2, _⟩
    · cases e
    · injection e with e
      simp only at e
      subst e
      unfold Row at hr h2
      rw [hr] at h2
      injection h2 with h2; injection h2 with _ h2
      exact ht h2
theorem grown_fr {w w' : World} {g n c : Nat} {sp : Option Addr} (hg : w.grownBy w' (Value.slice sp n c).ownBlock) : Fr [g, bk sp g] w w' :=
  ⟨hg.os, hg.tape, hg.output, hg.size, fun k hk hn => hg.block k hk (fun e => by
    cases sp with
    | none => cases e
    | some a => injection e with e; subst e; simp [bk] at hn)⟩
theorem bk_or {g n c n' c' z : Nat} {sp sp' : Option Addr} (h : (Value.slice sp' n' c').ownBlock = (Value.slice sp n c).ownBlock ∨ (Value.slice sp' n' c').ownBlock = some z) : bk sp' g = bk sp g ∨ z ≤ bk sp' g := by
  cases sp' <;> cases sp <;> simp [Value.ownBlock, bk] at h ⊢ <;> omega
theorem Own8.len {w : World} {B : Nat} {e : TypeId} {sp : Option Addr} {n cap : Nat} {l : List Int} (h : Own8 w B e (.slice sp n cap) l) : n = l.length := by
  obtain ⟨_, _, h⟩ := h.form
  injection h
theorem dk_stored {w : World} {g n' cap cap' : Nat} {sp sp' : Option Addr} {d : D} {bs : List Int} (r1 : Row w g 61 (dc d sp cap)) (ho1 : Own8 w 0 5 (.slice sp' n' cap') bs) : Dk (w.setCell ⟨g, 1, none⟩ (.slice sp' n' cap')) g (bk sp' g) { d with bytes := bs } := by
  have := ho1.len
  subst this
  exact ⟨sp', cap', r1.set0 1 _, dk_set r1 (by decide) ho1 1 _, rfl⟩
/-- What Append makes of a disk. -/
def dApp (d : D) (b : List Int) : D := if d.dead then d else if (b.length : Int) > d.room - d.bytes.length then d else dWork { d with bytes := d.bytes ++ b }
def aErr (d : D) (b : List Int) : Int := if d.dead then 17 else if (b.length : Int) > d.room - d.bytes.length then 16 else wErr d
set_option maxRecDepth 20000 in
set_option maxHeartbeats 1000000 in
theorem append_any (d : D) (bs : List Int) (sp0 : Option Addr) (cap0 : Nat) (g h : Nat) (w : World) (hD : Dk w g h d) (hk : Ok d) (hb : Bytes w sp0 bs) (hnil : sp0 = none → cap0 = 0 ∧ bs.length = 0) (hbl : bs.length ≤ 1099511627776) :
    Calls Try.prog 19 #[.pointer (some ⟨g, 0, none⟩), .slice sp0 bs.length cap0] w fun e w' => e = .returned (.int .i64 (aErr d bs)) ∧ ∃ h', Dk w' g h' (dApp d bs) ∧ Fr [g, h] w w' ∧ (h' = h ∨ w.heap.size ≤ h') := by
  obtain ⟨sp, cap, hr, ho, rfl⟩ := hD
  have c0 : w.cell? ⟨g, 0, none⟩ = some (.int .i64 d.room) := hr.cell
  have c1 : w.cell? ⟨g, 1, none⟩ = some (.slice sp d.bytes.length cap) := hr.cell
  have c2 : w.cell? ⟨g, 2, none⟩ = some (.int .i64 d.syn) := hr.cell
  have c3 : w.cell? ⟨g, 3, none⟩ = some (.int .i64 d.left) := hr.cell
  have c4 : w.cell? ⟨g, 4, none⟩ = some (.bool d.dead) := hr.cell
  have c5 : w.cell? ⟨g, 5, none⟩ = some (.int .i64 d.ops) := hr.cell
  have f1 := hr.frozen (j := 1)
  have f2 := hr.frozen (j := 2)
  have f3 := hr.frozen (j := 3)
  have f4 := hr.frozen (j := 4)
  have f5 := hr.frozen (j := 5)
  have hk1 := hk.room
  have hk2 := hk.fits
  cases hdd : d.dead with
  | true =>
    rw [show dApp d bs = d from by simp [dApp, hdd], show aErr d bs = 17 from by simp [aErr, hdd]]
    rw [hdd] at c4
    go_enter Try.func19, Try.ntmps19
    go_wp2
    go_ret
    exact ⟨rfl, _, ⟨sp, cap, hr, ho, rfl⟩, Fr.refl _ _, .inl rfl⟩
  | false =>
    rw [hdd] at c4
    by_cases hf : (bs.length : Int) > d.room - d.bytes.length
    · rw [show dApp d bs = d from by simp [dApp, hdd, hf], show aErr d bs = 16 from by simp [aErr, hdd, hf]]
      have hf' : decide ((bs.length : Int) > d.room - d.bytes.length) = true := by simp [hf]
      go_enter Try.func19, Try.ntmps19
      go_wp2
      go_quiet (fail)
      go_wp2
      go_ret
      exact ⟨rfl, _, ⟨sp, cap, hr.drewN _, ho, rfl⟩, (Fr.refl _ _).drewN _, .inl rfl⟩
    · rw [show dApp d bs = dWork { d with bytes := d.bytes ++ bs } from by simp [dApp, hdd, hf], show aErr d bs = wErr { d with bytes := d.bytes ++ bs } from by simp [aErr, hdd, hf, wErr]]
      have hf' : decide ((bs.length : Int) > d.room - d.bytes.length) = false := by simp; omega
      have hk3 : Ok { d with bytes := d.bytes ++ bs } := ⟨hk.room, by simp; omega, by have := hk.syn; simp; omega, hk.left, hk.ops⟩
      generalize hd1 : ({ d with bytes := d.bytes ++ bs } : D) = d1 at hk3 ⊢
      go_enter Try.func19, Try.ntmps19
      go_wp2
      go_quiet (fail)
      replace hr : Row (w.drewN nq) g 61 (dc d sp cap) := hr
      replace ho : Own8 (w.drewN nq) 0 5 (.slice sp d.bytes.length cap) d.bytes := ho
      replace hb : Bytes (w.drewN nq) sp0 bs := hb
      have hF0 : Fr [g, bk sp g] w (w.drewN nq) := (Fr.refl _ _).drewN _
      replace c1 : (w.drewN nq).cell? ⟨g, 1, none⟩ = some (.slice sp d.bytes.length cap) := hr.cell
      generalize w.drewN nq = w9 at *
      go_wp2_with (first | (refine append8f (.tmp 26) (.tmp 27) (by rfl) (by rfl) 0 (.slice sp d.bytes.length cap) d.bytes (by rfl) ?hown sp0 bs.length cap0 bs (by rfl) rfl hnil ?hby ?hlen (Nat.zero_le _) ?_; (case hown => exact ho); (case hby => exact hb); (case hlen => omega); intro sp' n' cap' w1 hn1 ho1 hg1 hor; have r1 := grown_row hg1 hr ho (by decide); have hF1 := grown_fr (g := g) hg1; have hor1 := bk_or (g := g) hor; have q1 := r1.frozen (j := 1); have c1' : w1.cell? ⟨g, 1, none⟩ = some (.slice sp d.bytes.length cap) := r1.cell; clear hg1 hor hn1) | (go_at_call 29; (with_reducible refine Calls.mono (work_any d1 g (bk sp' g) _ ?hD1 hk3) ?_); (case hD1 => rw [← hd1]; exact dk_stored r1 ho1); rintro e w3 ⟨rfl, hD3, hF3⟩))
      go_ret
      have hs0 := hF0.size
      refine ⟨rfl, bk sp' g, hD3, ((hF0.trans hF1).setCell (by simp) _).trans (hF3.mono (by simp)), ?_⟩
      rcases hor1 with h1 | h1
      · exact .inl h1
      · exact .inr (by omega)
def dSync (d : D) : D := if d.dead then d else if d.left = 1 then dWork d else { dWork d with syn := d.bytes.length }
def sErr (d : D) : Int := if d.dead then 17 else wErr d
theorem dWork_bytes (d : D) : (dWork d).bytes = d.bytes := by unfold dWork; split <;> rfl
set_option maxRecDepth 20000 in
set_option maxHeartbeats 1000000 in
theorem sync_any (d : D) (g h : Nat) (w : World) (hD : Dk w g h d) (hk : Ok d) :
    Calls Try.prog 33 #[.pointer (some ⟨g, 0, none⟩)] w fun e w' => e = .returned (.int .i64 (sErr d)) ∧ Dk w' g h (dSync d) ∧ Fr [g] w w' := by
  have hD0 := hD
  obtain ⟨sp, cap, hr, ho, rfl⟩ := hD
  have c0 : w.cell? ⟨g, 0, none⟩ = some (.int .i64 d.room) := hr.cell
  have c1 : w.cell? ⟨g, 1, none⟩ = some (.slice sp d.bytes.length cap) := hr.cell
  have c2 : w.cell? ⟨g, 2, none⟩ = some (.int .i64 d.syn) := hr.cell
  have c3 : w.cell? ⟨g, 3, none⟩ = some (.int .i64 d.left) := hr.cell
  have c4 : w.cell? ⟨g, 4, none⟩ = some (.bool d.dead) := hr.cell
  have c5 : w.cell? ⟨g, 5, none⟩ = some (.int .i64 d.ops) := hr.cell
  have f1 := hr.frozen (j := 1)
  have f2 := hr.frozen (j := 2)
  have f3 := hr.frozen (j := 3)
  have f4 := hr.frozen (j := 4)
  have f5 := hr.frozen (j := 5)
  cases hdd : d.dead with
  | true =>
    rw [show dSync d = d from by simp [dSync, hdd], show sErr d = 17 from by simp [sErr, hdd]]
    rw [hdd] at c4
    go_enter Try.func33, Try.ntmps33
    go_wp2
    go_ret
    exact ⟨rfl, hD0, Fr.refl _ _⟩
  | false =>
    rw [hdd] at c4
    have hwk := work_any d g (bk sp g) w hD0 hk
    by_cases hl : d.left = 1
    · rw [show dSync d = dWork d from by simp [dSync, hdd, hl], show sErr d = 17 from by simp [sErr, hdd, wErr, hl]]
      rw [show wErr d = 17 from by simp [wErr, hl]] at hwk
      go_enter Try.func33, Try.ntmps33
      go_wp2_with (go_at_call 29; (with_reducible refine Calls.mono hwk ?_); rintro e w3 ⟨rfl, hD3, hF3⟩)
      go_ret
      exact ⟨rfl, hD3, hF3⟩
    · rw [show dSync d = { dWork d with syn := d.bytes.length } from by simp [dSync, hdd, hl], show sErr d = 0 from by simp [sErr, hdd, wErr, hl]]
      rw [show wErr d = 0 from by simp [wErr, hl]] at hwk
      have hby := dWork_bytes d
      generalize dWork d = d1 at hwk hby ⊢
      go_enter Try.func33, Try.ntmps33
      go_wp2_with (go_at_call 29; (with_reducible refine Calls.mono hwk ?_); rintro e w3 ⟨rfl, ⟨sp3, cap3, r3, o3, h3⟩, hF3⟩; have c13 : w3.cell? ⟨g, 1, none⟩ = some (.slice sp3 d1.bytes.length cap3) := r3.cell; have c23 : w3.cell? ⟨g, 2, none⟩ = some (.int .i64 d1.syn) := r3.cell; have f23 := r3.frozen (j := 2))
      go_ret
      have r4 := r3.set0 2 (.int .i64 d1.bytes.length)
      have o4 := dk_set r3 (by decide) o3 2 (.int .i64 d1.bytes.length)
      rw [← hby]
      exact ⟨rfl, ⟨sp3, cap3, r4, o4, h3⟩, hF3.setCell (by simp) _⟩
/-- How many of the bytes that are not synced stay. -/
def stay (d : D) (p : Int) : Nat := (p % ((d.bytes.length : Int) - d.syn + 1)).toNat
def dCrash (d : D) (p : Int) : D := { d with syn := d.syn + stay d p, bytes := d.bytes.take (d.syn + stay d p), left := 0, dead := false }
theorem stay_le {d : D} (hs : d.syn ≤ d.bytes.length) (p : Int) : d.syn + stay d p ≤ d.bytes.length ∧ (stay d p : Int) = p % ((d.bytes.length : Int) - d.syn + 1) := by
  have h1 := Int.emod_nonneg p (show (d.bytes.length : Int) - d.syn + 1 ≠ 0 by omega)
  have h2 := Int.emod_lt_of_pos p (show 0 < (d.bytes.length : Int) - d.syn + 1 by omega)
  unfold stay
  omega
end Go.Proofs.Ytmfcildkkeeneaa
