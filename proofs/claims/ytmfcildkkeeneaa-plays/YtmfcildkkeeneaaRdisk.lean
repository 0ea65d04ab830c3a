/- The disk of the reference: its calls. No condition but small numbers. -/
import Derived.Test.YtmfcildkkeeneaaDisk3
namespace Go.Proofs.Ytmfcildkkeeneaa
open Go Go.RowKit
/-- The reference's disk d, as its cells. -/
def rc (d : D) (sp : Option Addr) (cap : Nat) : Array Value := #[.int .i64 d.room, .int .i64 d.syn, .slice sp d.bytes.length cap, .int .i64 d.left, .int .i64 d.ops, .bool d.dead]
def Rk (w : World) (g h : Nat) (d : D) : Prop := ∃ sp cap, Row w g 48 (rc d sp cap) ∧ Own8 w 0 5 (.slice sp d.bytes.length cap) d.bytes ∧ h = bk sp g
theorem Rk.lt {w : World} {g h : Nat} {d : D} (hD : Rk w g h d) : g < w.heap.size ∧ h < w.heap.size := by
  obtain ⟨sp, cap, hr, ho, rfl⟩ := hD
  refine ⟨hr.lt, ?_⟩
  rcases ho.row with ⟨rfl, _⟩ | ⟨g', cur, rfl, h2, _⟩
  · exact hr.lt
  · exact h2.lt
theorem Rk.fr {w w' : World} {g h : Nat} {d : D} {L : List Nat} (hD : Rk w g h d) (hf : Fr L w w') (hg : g ∉ L) (hh : h ∉ L) : Rk w' g h d := by
  obtain ⟨sp, cap, hr, ho, rfl⟩ := hD
  exact ⟨sp, cap, hr.fr hf hg, ho.fr (g := g) hf hh, rfl⟩
def rGoes (d : D) : D := if d.left = 1 then { d with left := 0, dead := true } else { d with left := if 0 < d.left then d.left - 1 else d.left, ops := d.ops + 1 }
def rOk (d : D) : Bool := if d.left = 1 then false else true
set_option maxRecDepth 20000 in
set_option maxHeartbeats 1000000 in
theorem goes_any (d : D) (g h : Nat) (w : World) (hD : Rk w g h d) (hk1 : 0 ≤ d.left ∧ d.left ≤ 9223372036854775807) (hk2 : 0 ≤ d.ops ∧ d.ops ≤ 1000000) :
    Calls Try.prog 30 #[.pointer (some ⟨g, 0, none⟩)] w fun e w' => e = .returned (.bool (rOk d)) ∧ Rk w' g h (rGoes d) ∧ Fr [g] w w' := by
  obtain ⟨sp, cap, hr, ho, rfl⟩ := hD
  have c0 : w.cell? ⟨g, 0, none⟩ = some (.int .i64 d.room) := hr.cell
  have c1 : w.cell? ⟨g, 1, none⟩ = some (.int .i64 d.syn) := hr.cell
  have c2 : w.cell? ⟨g, 2, none⟩ = some (.slice sp d.bytes.length cap) := hr.cell
  have c3 : w.cell? ⟨g, 3, none⟩ = some (.int .i64 d.left) := hr.cell
  have c4 : w.cell? ⟨g, 4, none⟩ = some (.int .i64 d.ops) := hr.cell
  have c5 : w.cell? ⟨g, 5, none⟩ = some (.bool d.dead) := hr.cell
  have f1 := hr.frozen (j := 1)
  have f2 := hr.frozen (j := 2)
  have f3 := hr.frozen (j := 3)
  have f4 := hr.frozen (j := 4)
  have f5 := hr.frozen (j := 5)
  by_cases hl : d.left = 1
  · rw [hl] at c3
    rw [show rGoes d = { d with left := 0, dead := true } from by simp [rGoes, hl], show rOk d = false from by simp [rOk, hl]]
    have r1 := hr.set0 3 (.int .i64 0)
    have o1 := dk_set hr (by decide) ho 3 (.int .i64 0)
    go_enter Try.func30, Try.ntmps30
    go_wp2
    go_ret
    exact ⟨rfl, ⟨sp, cap, r1.set0 5 (.bool true), dk_set r1 (by decide) o1 5 (.bool true), rfl⟩, ((Fr.refl _ _).setCell (by simp) _).setCell (by simp) _⟩
  · by_cases h0 : 0 < d.left
    · have hd0 : decide (d.left > 0) = true := by simp [h0]
      have hd1 : (d.left - 1 == 0) = false := by simp; omega
      rw [show rGoes d = { d with left := d.left - 1, ops := d.ops + 1 } from by simp [rGoes, hl, h0], show rOk d = true from by simp [rOk, hl]]
      have r1 := hr.set0 3 (.int .i64 (d.left - 1))
      have o1 := dk_set hr (by decide) ho 3 (.int .i64 (d.left - 1))
      go_enter Try.func30, Try.ntmps30
      go_wp2
      go_ret
      exact ⟨rfl, ⟨sp, cap, r1.set0 4 (.int .i64 (d.ops + 1)), dk_set r1 (by decide) o1 4 (.int .i64 (d.ops + 1)), rfl⟩, ((Fr.refl _ _).setCell (by simp) _).setCell (by simp) _⟩
    · have hd0 : decide (d.left > 0) = false := by simp; omega
      rw [show rGoes d = { d with ops := d.ops + 1 } from by simp [rGoes, hl, h0], show rOk d = true from by simp [rOk, hl]]
      go_enter Try.func30, Try.ntmps30
      go_wp2
      go_ret
      exact ⟨rfl, ⟨sp, cap, hr.set0 4 (.int .i64 (d.ops + 1)), dk_set hr (by decide) ho 4 (.int .i64 (d.ops + 1)), rfl⟩, (Fr.refl _ _).setCell (by simp) _⟩
set_option maxRecDepth 20000 in
set_option maxHeartbeats 1000000 in
theorem rstop_any (d : D) (n : Int) (g h : Nat) (w : World) (hD : Rk w g h d) :
    Calls Try.prog 16 #[.pointer (some ⟨g, 0, none⟩), .int .i64 n] w fun e w' => e = .returned (.tuple #[]) ∧ Rk w' g h { d with left := lmax n } ∧ Fr [g] w w' := by
  obtain ⟨sp, cap, hr, ho, rfl⟩ := hD
  have c0 : w.cell? ⟨g, 0, none⟩ = some (.int .i64 d.room) := hr.cell
  have c1 : w.cell? ⟨g, 1, none⟩ = some (.int .i64 d.syn) := hr.cell
  have c2 : w.cell? ⟨g, 2, none⟩ = some (.slice sp d.bytes.length cap) := hr.cell
  have c3 : w.cell? ⟨g, 3, none⟩ = some (.int .i64 d.left) := hr.cell
  have c4 : w.cell? ⟨g, 4, none⟩ = some (.int .i64 d.ops) := hr.cell
  have c5 : w.cell? ⟨g, 5, none⟩ = some (.bool d.dead) := hr.cell
  have f1 := hr.frozen (j := 1)
  have f2 := hr.frozen (j := 2)
  have f3 := hr.frozen (j := 3)
  have f4 := hr.frozen (j := 4)
  have f5 := hr.frozen (j := 5)
  by_cases hn : n < 0
  · rw [show lmax n = 0 from by simp [lmax, hn]]
    go_enter Try.func16, Try.ntmps16
    go_wp2
    go_end0
    exact ⟨rfl, ⟨sp, cap, hr.set0 3 (.int .i64 0), dk_set hr (by decide) ho 3 (.int .i64 0), rfl⟩, (Fr.refl _ _).setCell (by simp) _⟩
  · rw [show lmax n = n from by simp [lmax, hn]]
    go_enter Try.func16, Try.ntmps16
    go_wp2
    go_end0
    exact ⟨rfl, ⟨sp, cap, hr.set0 3 (.int .i64 n), dk_set hr (by decide) ho 3 (.int .i64 n), rfl⟩, (Fr.refl _ _).setCell (by simp) _⟩
theorem rk_stored {w : World} {g n' cap cap' : Nat} {sp sp' : Option Addr} {d : D} {bs : List Int} (r1 : Row w g 48 (rc d sp cap)) (ho1 : Own8 w 0 5 (.slice sp' n' cap') bs) : Rk (w.setCell ⟨g, 2, none⟩ (.slice sp' n' cap')) g (bk sp' g) { d with bytes := bs } := by
  have := ho1.len
  subst this
  exact ⟨sp', cap', r1.set0 2 _, dk_set r1 (by decide) ho1 2 _, rfl⟩
theorem rGoes_bytes (d : D) : (rGoes d).bytes = d.bytes := by unfold rGoes; split <;> rfl
/-- What the reference's Append makes of a disk. -/
def rApp (d : D) (b : List Int) : D := if d.dead then d else if (d.bytes.length : Int) + b.length > d.room then d else { rGoes d with bytes := d.bytes ++ b }
def rErr (d : D) (b : List Int) : Int := if d.dead then 17 else if (d.bytes.length : Int) + b.length > d.room then 16 else if rOk d then 0 else 17
theorem Own8.none0 {w : World} {B : Nat} {e : TypeId} {n cap : Nat} {sp : Option Addr} {l : List Int} (h : Own8 w B e (.slice sp n cap) l) : sp = none → cap = 0 ∧ l.length = 0 := fun hs => by
  rcases h.row with ⟨_, h1, h2, _⟩ | ⟨_, _, h1, _⟩
  · exact ⟨h1, by rw [h2]; rfl⟩
  · rw [h1] at hs; cases hs
theorem bytes_fr2 {w w' : World} {sp : Option Addr} {cs : List Int} {l : List Nat} (h : Bytes w sp cs) (hf : Fr l w w') (hb : 0 < cs.length → ∀ a, sp = some a → a.block ∉ l) : Bytes w' sp cs := fun hp => (h.fr hf (hb hp)) hp
theorem size_alloc1 (w : World) : w.heap.size ≤ (w.alloc (.cells #[] 5)).heap.size := by simp
theorem below_lit {w w' : World} {o : Obj} (h : Below w.heap.size (w.alloc o) w') : Below w.heap.size w w' := ((Below.refl _ _).alloc (Nat.le_refl _) _).trans h
theorem own8_bk {w : World} {B g n cap : Nat} {sp : Option Addr} {l : List Int} (h : Own8 w B 5 (.slice sp n cap) l) : bk sp g = g ∨ B ≤ bk sp g := by
  obtain ⟨_, h⟩ := h
  rcases h with ⟨h, _⟩ | ⟨g', cap', cur, hv, hg, _⟩
  · injection h with h1 _ _
    subst h1; exact .inl rfl
  · injection hv with h1 _ _
    subst h1; exact .inr hg
set_option maxRecDepth 20000 in
set_option maxHeartbeats 1000000 in
theorem rappend_any (d : D) (bs : List Int) (sp0 : Option Addr) (cap0 : Nat) (g h : Nat) (w : World) (hD : Rk w g h d) (hb : Bytes w sp0 bs) (hb2 : 0 < bs.length → ∀ a, sp0 = some a → a.block ≠ g) (hnil : sp0 = none → cap0 = 0 ∧ bs.length = 0) (hbl : bs.length ≤ 1099511627776) (hk0 : d.bytes.length ≤ 1099511627776) (hk1 : 0 ≤ d.left ∧ d.left ≤ 9223372036854775807) (hk2 : 0 ≤ d.ops ∧ d.ops ≤ 1000000) :
    Calls Try.prog 20 #[.pointer (some ⟨g, 0, none⟩), .slice sp0 bs.length cap0] w fun e w' => e = .returned (.int .i64 (rErr d bs)) ∧ ∃ h', Rk w' g h' (rApp d bs) ∧ Fr [g] w w' ∧ (h' = h ∨ h' = g ∨ w.heap.size ≤ h') := by
  have hD0 := hD
  obtain ⟨sp, cap, hr, ho, rfl⟩ := hD
  have c0 : w.cell? ⟨g, 0, none⟩ = some (.int .i64 d.room) := hr.cell
  have c1 : w.cell? ⟨g, 1, none⟩ = some (.int .i64 d.syn) := hr.cell
  have c2 : w.cell? ⟨g, 2, none⟩ = some (.slice sp d.bytes.length cap) := hr.cell
  have c3 : w.cell? ⟨g, 3, none⟩ = some (.int .i64 d.left) := hr.cell
  have c4 : w.cell? ⟨g, 4, none⟩ = some (.int .i64 d.ops) := hr.cell
  have c5 : w.cell? ⟨g, 5, none⟩ = some (.bool d.dead) := hr.cell
  have f1 := hr.frozen (j := 1)
  have f2 := hr.frozen (j := 2)
  have f3 := hr.frozen (j := 3)
  have f4 := hr.frozen (j := 4)
  have f5 := hr.frozen (j := 5)
  cases hdd : d.dead with
  | true =>
    rw [show rApp d bs = d from by simp [rApp, hdd], show rErr d bs = 17 from by simp [rErr, hdd]]
    rw [hdd] at c5
    go_enter Try.func20, Try.ntmps20
    go_wp2
    go_ret
    exact ⟨rfl, _, hD0, Fr.refl _ _, .inl rfl⟩
  | false =>
    rw [hdd] at c5
    by_cases hf : (d.bytes.length : Int) + bs.length > d.room
    · rw [show rApp d bs = d from by simp [rApp, hdd, hf], show rErr d bs = 16 from by simp [rErr, hdd, hf]]
      have hf' : decide ((d.bytes.length : Int) + bs.length > d.room) = true := by simp [hf]
      go_enter Try.func20, Try.ntmps20
      go_wp2
      go_quiet (fail)
      go_wp2
      go_ret
      exact ⟨rfl, _, ⟨sp, cap, hr.drewN _, ho, rfl⟩, (Fr.refl _ _).drewN _, .inl rfl⟩
    · rw [show rApp d bs = { rGoes d with bytes := d.bytes ++ bs } from by simp [rApp, hdd, hf], show rErr d bs = (if rOk d then 0 else 17) from by simp [rErr, hdd, hf]]
      have hf' : decide ((d.bytes.length : Int) + bs.length > d.room) = false := by simp; omega
      have hgo := fun n => goes_any d g (bk sp g) (w.drewN n) (hD0.fr ((Fr.refl [] _).drewN n) (by simp) (by simp)) hk1 hk2
      have hgb := rGoes_bytes d
      generalize rGoes d = d1 at *
      have hF0 : ∀ n, Fr [g] w (w.drewN n) := fun n => (Fr.refl _ _).drewN n
      have hb' : ∀ n, Bytes (w.drewN n) sp0 bs := fun n => hb
      have hfin : ∀ (w5 w6 : World) (sp5 sp6 : Option Addr) (cap5 n6 cap6 : Nat), Fr [g] w w5 → Row w5 g 48 (rc d1 sp5 cap5) → Own8 w6 w5.heap.size 5 (.slice sp6 n6 cap6) (d1.bytes ++ bs) → Below w5.heap.size w5 w6 →
          ∃ h', Rk (w6.setCell ⟨g, 2, none⟩ (.slice sp6 n6 cap6)) g h' { d1 with bytes := d1.bytes ++ bs } ∧ Fr [g] w (w6.setCell ⟨g, 2, none⟩ (.slice sp6 n6 cap6)) ∧ (h' = bk sp g ∨ h' = g ∨ w.heap.size ≤ h') := fun w5 w6 sp5 sp6 cap5 n6 cap6 k1 k2 k3 k4 => by
        refine ⟨bk sp6 g, rk_stored (k2.below k4 k2.lt) (k3.mono (Nat.zero_le _)), (k1.trans (Fr.of_below k4)).setCell (by simp) _, ?_⟩
        have := k1.size
        rcases own8_bk (g := g) k3 with h1 | h1
        · exact .inr (.inl h1)
        · exact .inr (.inr (by omega))
      have hlb : d1.bytes.length ≤ 1099511627776 := by rw [hgb]; exact hk0
      rw [show d.bytes ++ bs = d1.bytes ++ bs from by rw [hgb]]
      clear hgb
      have hl1 : ([] : List Int).length + d1.bytes.length ≤ 70368744177664 := by simp; omega
      have hl2 : ([] ++ d1.bytes : List Int).length + bs.length ≤ 70368744177664 := by simp; omega
      cases hok : rOk d with
      | true =>
        rw [hok] at hgo
        go_enter Try.func20, Try.ntmps20
        go_wp2
        go_quiet (fail)
        replace hgo := hgo nq
        replace hb' := hb' nq
        replace hF0 := hF0 nq
        generalize w.drewN nq = w9 at *
        go_wp2_with (first | (go_at_call 30; (with_reducible refine Calls.mono hgo ?_); rintro e w3 ⟨rfl, ⟨sp3, cap3, r3, o3, h3⟩, hF3⟩; have k2 : w3.cell? ⟨g, 2, none⟩ = some (.slice sp3 d1.bytes.length cap3) := r3.cell; have hb3 : Bytes w3 sp0 bs := bytes_fr2 hb' hF3 (by intro hp a ha; simp [hb2 hp a ha]); have hs1 := size_alloc1 w3; have k2a : (w3.alloc (.cells #[] 5)).cell? ⟨g, 2, none⟩ = some (.slice sp3 d1.bytes.length cap3) := (r3.alloc _).cell) | (refine append8 (.tmp 26) (.tmp 30) 38 5 (by rfl) (by rfl) w3.heap.size Try.underlying38 info5 (.slice (some ⟨w3.heap.size, 0, none⟩) 0 0) [] (by rfl) ?hown sp3 d1.bytes.length cap3 d1.bytes (by rfl) rfl ?hnil ?hby ?hlen ?hB ?_; (case hown => exact own8_lit w3 w3.heap.size (Nat.le_refl _)); (case hnil => exact o3.none0); (case hby => exact (o3.below ((Below.refl _ _).alloc (Nat.le_refl _) _) (Nat.le_refl _)).bytes); (case hlen => exact hl1); (case hB => exact hs1); intro sp4 cap4 w4 o4 b4; have b34 := below_lit b4; have hb4 := hb3.below b34; have hs4 := b34.size) | (refine append8 (.tmp 31) (.tmp 32) 38 5 (by rfl) (by rfl) w3.heap.size Try.underlying38 info5 (.slice sp4 ([] ++ d1.bytes).length cap4) ([] ++ d1.bytes) (by rfl) ?hown sp0 bs.length cap0 bs (by rfl) rfl ?hnil ?hby ?hlen ?hB ?_; (case hown => exact o4); (case hnil => exact hnil); (case hby => exact hb4); (case hlen => exact hl2); (case hB => exact hs4); intro sp6 cap6 w6 o6 b6; have b36 := b34.trans b6; have r6 := r3.below b36 r3.lt; have c6 := r6.cell (j := 2); have f6 := r6.frozen (j := 2); have k6 : w6.cell? ⟨g, 2, none⟩ = some (.slice sp3 d1.bytes.length cap3) := c6; clear c6))
        have e6 : ([] ++ d1.bytes ++ bs).length = d1.bytes.length + bs.length := by simp
        rw [e6, List.nil_append] at o6
        obtain ⟨h', t1, t2, t3⟩ := hfin w3 w6 sp3 sp6 cap3 _ cap6 (hF0.trans hF3) r3 o6 b36
        go_ret
        exact ⟨rfl, h', t1, t2, h3 ▸ t3⟩
      | false =>
        rw [hok] at hgo
        go_enter Try.func20, Try.ntmps20
        go_wp2
        go_quiet (fail)
        replace hgo := hgo nq
        replace hb' := hb' nq
        replace hF0 := hF0 nq
        generalize w.drewN nq = w9 at *
        go_wp2_with (first | (go_at_call 30; (with_reducible refine Calls.mono hgo ?_); rintro e w3 ⟨rfl, ⟨sp3, cap3, r3, o3, h3⟩, hF3⟩; have k2 : w3.cell? ⟨g, 2, none⟩ = some (.slice sp3 d1.bytes.length cap3) := r3.cell; have hb3 : Bytes w3 sp0 bs := bytes_fr2 hb' hF3 (by intro hp a ha; simp [hb2 hp a ha]); have hs1 := size_alloc1 w3; have k2a : (w3.alloc (.cells #[] 5)).cell? ⟨g, 2, none⟩ = some (.slice sp3 d1.bytes.length cap3) := (r3.alloc _).cell) | (refine append8 (.tmp 26) (.tmp 30) 38 5 (by rfl) (by rfl) w3.heap.size Try.underlying38 info5 (.slice (some ⟨w3.heap.size, 0, none⟩) 0 0) [] (by rfl) ?hown sp3 d1.bytes.length cap3 d1.bytes (by rfl) rfl ?hnil ?hby ?hlen ?hB ?_; (case hown => exact own8_lit w3 w3.heap.size (Nat.le_refl _)); (case hnil => exact o3.none0); (case hby => exact (o3.below ((Below.refl _ _).alloc (Nat.le_refl _) _) (Nat.le_refl _)).bytes); (case hlen => exact hl1); (case hB => exact hs1); intro sp4 cap4 w4 o4 b4; have b34 := below_lit b4; have hb4 := hb3.below b34; have hs4 := b34.size) | (refine append8 (.tmp 31) (.tmp 32) 38 5 (by rfl) (by rfl) w3.heap.size Try.underlying38 info5 (.slice sp4 ([] ++ d1.bytes).length cap4) ([] ++ d1.bytes) (by rfl) ?hown sp0 bs.length cap0 bs (by rfl) rfl ?hnil ?hby ?hlen ?hB ?_; (case hown => exact o4); (case hnil => exact hnil); (case hby => exact hb4); (case hlen => exact hl2); (case hB => exact hs4); intro sp6 cap6 w6 o6 b6; have b36 := b34.trans b6; have r6 := r3.below b36 r3.lt; have c6 := r6.cell (j := 2); have f6 := r6.frozen (j := 2); have k6 : w6.cell? ⟨g, 2, none⟩ = some (.slice sp3 d1.bytes.length cap3) := c6; clear c6))
        have e6 : ([] ++ d1.bytes ++ bs).length = d1.bytes.length + bs.length := by simp
        rw [e6, List.nil_append] at o6
        obtain ⟨h', t1, t2, t3⟩ := hfin w3 w6 sp3 sp6 cap3 _ cap6 (hF0.trans hF3) r3 o6 b36
        go_ret
        exact ⟨rfl, h', t1, t2, h3 ▸ t3⟩
def rSync (d : D) : D := if d.dead then d else if d.left = 1 then rGoes d else { rGoes d with syn := d.bytes.length }
set_option maxRecDepth 20000 in
set_option maxHeartbeats 1000000 in
theorem rsync_any (d : D) (g h : Nat) (w : World) (hD : Rk w g h d) (hk1 : 0 ≤ d.left ∧ d.left ≤ 9223372036854775807) (hk2 : 0 ≤ d.ops ∧ d.ops ≤ 1000000) (hk0 : d.bytes.length ≤ 1099511627776) :
    Calls Try.prog 27 #[.pointer (some ⟨g, 0, none⟩)] w fun e w' => e = .returned (.int .i64 (if d.dead then 17 else if rOk d then 0 else 17)) ∧ Rk w' g h (rSync d) ∧ Fr [g] w w' := by
  have hD0 := hD
  obtain ⟨sp, cap, hr, ho, rfl⟩ := hD
  have c0 : w.cell? ⟨g, 0, none⟩ = some (.int .i64 d.room) := hr.cell
  have c1 : w.cell? ⟨g, 1, none⟩ = some (.int .i64 d.syn) := hr.cell
  have c2 : w.cell? ⟨g, 2, none⟩ = some (.slice sp d.bytes.length cap) := hr.cell
  have c3 : w.cell? ⟨g, 3, none⟩ = some (.int .i64 d.left) := hr.cell
  have c4 : w.cell? ⟨g, 4, none⟩ = some (.int .i64 d.ops) := hr.cell
  have c5 : w.cell? ⟨g, 5, none⟩ = some (.bool d.dead) := hr.cell
  have f1 := hr.frozen (j := 1)
  have f2 := hr.frozen (j := 2)
  have f3 := hr.frozen (j := 3)
  have f4 := hr.frozen (j := 4)
  have f5 := hr.frozen (j := 5)
  cases hdd : d.dead with
  | true =>
    rw [show rSync d = d from by simp [rSync, hdd]]
    rw [hdd] at c5
    go_enter Try.func27, Try.ntmps27
    go_wp2
    go_ret
    exact ⟨rfl, hD0, Fr.refl _ _⟩
  | false =>
    rw [hdd] at c5
    have hgo := goes_any d g (bk sp g) w hD0 hk1 hk2
    by_cases hl : d.left = 1
    · rw [show rSync d = rGoes d from by simp [rSync, hdd, hl]]
      have hok : rOk d = false := by simp [rOk, hl]
      rw [hok] at hgo
      rw [hok]
      go_enter Try.func27, Try.ntmps27
      go_wp2_with (go_at_call 30; (with_reducible refine Calls.mono hgo ?_); rintro e w3 ⟨rfl, hD3, hF3⟩)
      go_ret
      exact ⟨rfl, hD3, hF3⟩
    · rw [show rSync d = { rGoes d with syn := d.bytes.length } from by simp [rSync, hdd, hl]]
      have hok : rOk d = true := by simp [rOk, hl]
      rw [hok] at hgo
      rw [hok]
      have hby := rGoes_bytes d
      have hlb : (rGoes d).bytes.length ≤ 1099511627776 := by rw [hby]; exact hk0
      rw [show d.bytes.length = (rGoes d).bytes.length from by rw [hby]]
      clear hby
      generalize rGoes d = d1 at *
      go_enter Try.func27, Try.ntmps27
      go_wp2_with (go_at_call 30; (with_reducible refine Calls.mono hgo ?_); rintro e w3 ⟨rfl, ⟨sp3, cap3, r3, o3, h3⟩, hF3⟩; have k2 : w3.cell? ⟨g, 2, none⟩ = some (.slice sp3 d1.bytes.length cap3) := r3.cell; have k1 : w3.cell? ⟨g, 1, none⟩ = some (.int .i64 d1.syn) := r3.cell; have f23 := r3.frozen (j := 1))
      go_ret
      have r4 := r3.set0 1 (.int .i64 d1.bytes.length)
      have o4 := dk_set r3 (by decide) o3 1 (.int .i64 d1.bytes.length)
      exact ⟨rfl, ⟨sp3, cap3, r4, o4, rfl⟩, hF3.setCell (by simp) _⟩
set_option maxRecDepth 20000 in
set_option maxHeartbeats 1000000 in
theorem rnew_any (room : Int) (w : World) (h : 1 ≤ room ∧ room ≤ 16777216) :
    Calls Try.prog 10 #[.int .i64 room] w fun e w' => e = .returned (.tuple #[.pointer (some ⟨w.heap.size, 0, none⟩), .int .i64 0]) ∧ Rk w' w.heap.size w.heap.size (dNew room) ∧ Below w.heap.size w w' := by
  go_enter Try.func10, Try.ntmps10
  go_wp2
  go_ret2
  exact ⟨rfl, ⟨none, 0, Row.new w 48 _, own8_nil _, rfl⟩, (Below.refl _ _).alloc (Nat.le_refl _) _⟩
set_option maxRecDepth 20000 in
set_option maxHeartbeats 1000000 in
theorem rnew_bad (room : Int) (w : World) (h : ¬ (1 ≤ room ∧ room ≤ 16777216)) :
    Calls Try.prog 10 #[.int .i64 room] w fun e w' => e = .returned (.tuple #[.pointer none, .int .i64 1]) ∧ w' = w := by
  by_cases h1 : room < 1
  · go_enter Try.func10, Try.ntmps10
    go_wp2
    go_ret2
    exact ⟨rfl, rfl⟩
  · have h2 : room > 16777216 := by omega
    go_enter Try.func10, Try.ntmps10
    go_wp2
    go_ret2
    exact ⟨rfl, rfl⟩
def rAfter (d : D) (p : Int) : D := { d with syn := d.syn + stay d p, bytes := d.bytes.take (d.syn + stay d p), left := 0, dead := false }
theorem rem_neg {a n : Int} (hn : 0 < n) (h : a.tmod n < 0) : a.tmod n + (n - 1) + 1 = a % n := by
  have := tmod_neg hn h
  omega
end Go.Proofs.Ytmfcildkkeeneaa
