/- The disk of the program: its small calls. No condition but small numbers. -/
import Derived.Test.YtmfcildkkeeneaaBase
namespace Go.Proofs.Ytmfcildkkeeneaa
open Go Go.RowKit
/-- A disk, as plain data. -/
structure D where
  room : Int
  bytes : List Int
  syn : Nat
  left : Int
  dead : Bool
  ops : Int
structure Ok (d : D) : Prop where
  room : 1 ≤ d.room ∧ d.room ≤ 16777216
  fits : (d.bytes.length : Int) ≤ d.room
  syn : d.syn ≤ d.bytes.length
  left : 0 ≤ d.left ∧ d.left ≤ 9223372036854775807
  ops : 0 ≤ d.ops ∧ d.ops ≤ 1000000
def dc (d : D) (sp : Option Addr) (cap : Nat) : Array Value := #[.int .i64 d.room, .slice sp d.bytes.length cap, .int .i64 d.syn, .int .i64 d.left, .bool d.dead, .int .i64 d.ops]
/-- The program's disk d at block g, its bytes in block h. -/
def Dk (w : World) (g h : Nat) (d : D) : Prop := ∃ sp cap, Row w g 61 (dc d sp cap) ∧ Own8 w 0 5 (.slice sp d.bytes.length cap) d.bytes ∧ h = bk sp g
theorem Dk.lt {w : World} {g h : Nat} {d : D} (hD : Dk w g h d) : g < w.heap.size ∧ h < w.heap.size := by
  obtain ⟨sp, cap, hr, ho, rfl⟩ := hD
  refine ⟨hr.lt, ?_⟩
  rcases ho.row with ⟨rfl, _⟩ | ⟨g', cur, rfl, h2, _⟩
  · exact hr.lt
  · exact h2.lt
theorem Dk.fr {w w' : World} {g h : Nat} {d : D} {L : List Nat} (hD : Dk w g h d) (hf : Fr L w w') (hg : g ∉ L) (hh : h ∉ L) : Dk w' g h d := by
  obtain ⟨sp, cap, hr, ho, rfl⟩ := hD
  exact ⟨sp, cap, hr.fr hf hg, ho.fr (g := g) hf hh, rfl⟩
/-- One cell of the disk stored, the bytes as they were. -/
theorem dk_set {w : World} {g : Nat} {t : TypeId} {vs : Array Value} {sp : Option Addr} {n cap : Nat} {l : List Int} (hr : Row w g t vs) (ht : t ≠ 5) (ho : Own8 w 0 5 (.slice sp n cap) l) (j : Nat) (u : Value) : Own8 (w.setCell ⟨g, j, none⟩ u) 0 5 (.slice sp n cap) l :=
  ho.setOther _ _ (fun k hk => by
    rcases ho.row with ⟨rfl, _⟩ | ⟨g', cur, rfl, h2, _⟩
    · cases hk
    · injection hk with hk
      subst hk
      intro e
      simp only at e
      subst e
      unfold Row at h2 hr
      rw [h2] at hr
      injection hr with hr; injection hr with _ hr
      exact ht hr.symm)

def dWork (d : D) : D := if d.left = 1 then { d with dead := true } else { d with left := if 0 < d.left then d.left - 1 else d.left, ops := d.ops + 1 }
def wErr (d : D) : Int := if d.left = 1 then 17 else 0
theorem tmod_neg {a n : Int} (hn : 0 < n) (h : a.tmod n < 0) : a.tmod n + n = a % n := by
  have := Int.tmod_eq_emod (a := a) (b := n)
  split at this
  · have h2 := Int.emod_nonneg a (show n ≠ 0 by omega); omega
  · omega
theorem tmod_pos {a n : Int} (hn : 0 < n) (h : ¬ a.tmod n < 0) : a.tmod n = a % n := by
  have := Int.tmod_eq_emod (a := a) (b := n)
  have h1 := Int.emod_lt_of_pos a hn
  split at this
  · omega
  · omega
set_option maxRecDepth 20000 in
theorem within_any (a n : Int) (w : World) (hn : 0 < n) (hn2 : n ≤ 4611686018427387904) :
    Calls Try.prog 8 #[.int .i64 a, .int .i64 n] w fun e w' => e = .returned (.int .i64 (a % n)) ∧ w' = w := by
  have hne : (n == 0) = false := by simp; omega
  have hne' : n ≠ 0 := by omega
  have hlo : -n < a.tmod n := by
    have := Int.lt_tmod_of_pos a hn; omega
  by_cases h : a.tmod n < 0
  · have e := tmod_neg hn h
    go_enter Try.func8, Try.ntmps8
    go_wp2
    go_ret
    exact ⟨rfl, rfl⟩
  · have e := tmod_pos hn h
    rw [← e]
    go_enter Try.func8, Try.ntmps8
    go_wp2
    go_ret
    exact ⟨rfl, rfl⟩
theorem pick_eq {a n : Int} (hn : 0 < n) : (a.tmod n + n).tmod n = a % n := by
  have h1 := Int.emod_nonneg a (show n ≠ 0 by omega)
  have h2 := Int.emod_lt_of_pos a hn
  by_cases h : a.tmod n < 0
  · rw [tmod_neg hn h, Int.tmod_eq_emod_of_nonneg h1, Int.emod_emod]
  · rw [tmod_pos hn h, Int.tmod_eq_emod_of_nonneg (by omega), Int.add_emod_right, Int.emod_emod]
set_option maxRecDepth 20000 in
theorem pick_any (a n : Int) (w : World) (hn : 0 < n) (hn2 : n ≤ 1099511627776) :
    Calls Try.prog 28 #[.int .i64 a, .int .i64 n] w fun e w' => e = .returned (.int .i64 (a % n)) ∧ w' = w := by
  have hne : (n == 0) = false := by simp; omega
  have hne' : n ≠ 0 := by omega
  have hlo : -n < a.tmod n := by
    have := Int.lt_tmod_of_pos a hn; omega
  have hhi := Int.tmod_lt_of_pos a hn
  have e := pick_eq (a := a) hn
  have e0 := Int.emod_nonneg a (show n ≠ 0 by omega)
  have e1 := Int.emod_lt_of_pos a hn
  go_enter Try.func28, Try.ntmps28
  go_wp2
  go_ret
  exact ⟨rfl, rfl⟩

set_option maxRecDepth 20000 in
set_option maxHeartbeats 1000000 in
theorem work_any (d : D) (g h : Nat) (w : World) (hD : Dk w g h d) (hk : Ok d) :
    Calls Try.prog 29 #[.pointer (some ⟨g, 0, none⟩)] w fun e w' => e = .returned (.int .i64 (wErr d)) ∧ Dk w' g h (dWork d) ∧ Fr [g] w w' := by
  obtain ⟨sp, cap, hr, ho, rfl⟩ := hD
  have c0 : w.cell? ⟨g, 0, none⟩ = some (.int .i64 d.room) := hr.cell
  have c1 : w.cell? ⟨g, 1, none⟩ = some (.slice sp d.bytes.length cap) := hr.cell
  have c2 : w.cell? ⟨g, 2, none⟩ = some (.int .i64 d.syn) := hr.cell
  have c3 : w.cell? ⟨g, 3, none⟩ = some (.int .i64 d.left) := hr.cell
  have c4 : w.cell? ⟨g, 4, none⟩ = some (.bool d.dead) := hr.cell
  have c5 : w.cell? ⟨g, 5, none⟩ = some (.int .i64 d.ops) := hr.cell
  have f1 := hr.frozen (j := 1)
  have f2 := hr.frozen (j := 2)
  have f3 := hr.frozen (j := 3)
  have f4 := hr.frozen (j := 4)
  have f5 := hr.frozen (j := 5)
  have hk1 := hk.left
  have hk2 := hk.ops
  by_cases hl : d.left = 1
  · have hle : (d.left == 1) = true := by simp [hl]
    rw [show dWork d = { d with dead := true } from by simp [dWork, hl], show wErr d = 17 from by simp [wErr, hl]]
    go_enter Try.func29, Try.ntmps29
    go_wp2
    go_ret
    exact ⟨rfl, ⟨sp, cap, hr.set0 4 (.bool true), dk_set hr (by decide) ho 4 (.bool true), rfl⟩, (Fr.refl _ _).setCell (by simp) _⟩
  · have hle : (d.left == 1) = false := by simp [hl]
    by_cases h0 : 0 < d.left
    · have hd0 : decide (d.left > 0) = true := by simp [h0]
      rw [show dWork d = { d with left := d.left - 1, ops := d.ops + 1 } from by simp [dWork, hl, h0], show wErr d = 0 from by simp [wErr, hl]]
      have r1 := hr.set0 3 (.int .i64 (d.left - 1))
      have o1 := dk_set hr (by decide) ho 3 (.int .i64 (d.left - 1))
      go_enter Try.func29, Try.ntmps29
      go_wp2
      go_ret
      exact ⟨rfl, ⟨sp, cap, r1.set0 5 (.int .i64 (d.ops + 1)), dk_set r1 (by decide) o1 5 (.int .i64 (d.ops + 1)), rfl⟩, ((Fr.refl _ _).setCell (by simp) _).setCell (by simp) _⟩
    · have hd0 : decide (d.left > 0) = false := by simp; omega
      rw [show dWork d = { d with ops := d.ops + 1 } from by simp [dWork, hl, h0], show wErr d = 0 from by simp [wErr, hl]]
      go_enter Try.func29, Try.ntmps29
      go_wp2
      go_ret
      exact ⟨rfl, ⟨sp, cap, hr.set0 5 (.int .i64 (d.ops + 1)), dk_set hr (by decide) ho 5 (.int .i64 (d.ops + 1)), rfl⟩, (Fr.refl _ _).setCell (by simp) _⟩
set_option maxRecDepth 20000 in
set_option maxHeartbeats 1000000 in
theorem dead_any (d : D) (g h : Nat) (w : World) (hD : Dk w g h d) :
    Calls Try.prog 23 #[.pointer (some ⟨g, 0, none⟩)] w fun e w' => e = .returned (.bool d.dead) ∧ w' = w := by
  obtain ⟨sp, cap, hr, ho, rfl⟩ := hD
  have c0 : w.cell? ⟨g, 0, none⟩ = some (.int .i64 d.room) := hr.cell
  have c1 : w.cell? ⟨g, 1, none⟩ = some (.slice sp d.bytes.length cap) := hr.cell
  have c2 : w.cell? ⟨g, 2, none⟩ = some (.int .i64 d.syn) := hr.cell
  have c3 : w.cell? ⟨g, 3, none⟩ = some (.int .i64 d.left) := hr.cell
  have c4 : w.cell? ⟨g, 4, none⟩ = some (.bool d.dead) := hr.cell
  have c5 : w.cell? ⟨g, 5, none⟩ = some (.int .i64 d.ops) := hr.cell
  have f1 := hr.frozen (j := 1)
  have f2 := hr.frozen (j := 2)
  have f3 := hr.frozen (j := 3)
  have f4 := hr.frozen (j := 4)
  have f5 := hr.frozen (j := 5)
  go_enter Try.func23, Try.ntmps23
  go_wp2
  go_ret
  exact ⟨rfl, rfl⟩
set_option maxRecDepth 20000 in
set_option maxHeartbeats 1000000 in
theorem ops_any (d : D) (g h : Nat) (w : World) (hD : Dk w g h d) :
    Calls Try.prog 25 #[.pointer (some ⟨g, 0, none⟩)] w fun e w' => e = .returned (.int .i64 d.ops) ∧ w' = w := by
  obtain ⟨sp, cap, hr, ho, rfl⟩ := hD
  have c0 : w.cell? ⟨g, 0, none⟩ = some (.int .i64 d.room) := hr.cell
  have c1 : w.cell? ⟨g, 1, none⟩ = some (.slice sp d.bytes.length cap) := hr.cell
  have c2 : w.cell? ⟨g, 2, none⟩ = some (.int .i64 d.syn) := hr.cell
  have c3 : w.cell? ⟨g, 3, none⟩ = some (.int .i64 d.left) := hr.cell
  have c4 : w.cell? ⟨g, 4, none⟩ = some (.bool d.dead) := hr.cell
  have c5 : w.cell? ⟨g, 5, none⟩ = some (.int .i64 d.ops) := hr.cell
  have f1 := hr.frozen (j := 1)
  have f2 := hr.frozen (j := 2)
  have f3 := hr.frozen (j := 3)
  have f4 := hr.frozen (j := 4)
  have f5 := hr.frozen (j := 5)
  go_enter Try.func25, Try.ntmps25
  go_wp2
  go_ret
  exact ⟨rfl, rfl⟩
def lmax (n : Int) : Int := if n < 0 then 0 else n
set_option maxRecDepth 20000 in
set_option maxHeartbeats 1000000 in
theorem stop_any (d : D) (n : Int) (g h : Nat) (w : World) (hD : Dk w g h d) :
    Calls Try.prog 15 #[.pointer (some ⟨g, 0, none⟩), .int .i64 n] w fun e w' => e = .returned (.tuple #[]) ∧ Dk w' g h { d with left := lmax n } ∧ Fr [g] w w' := by
  obtain ⟨sp, cap, hr, ho, rfl⟩ := hD
  have c0 : w.cell? ⟨g, 0, none⟩ = some (.int .i64 d.room) := hr.cell
  have c1 : w.cell? ⟨g, 1, none⟩ = some (.slice sp d.bytes.length cap) := hr.cell
  have c2 : w.cell? ⟨g, 2, none⟩ = some (.int .i64 d.syn) := hr.cell
  have c3 : w.cell? ⟨g, 3, none⟩ = some (.int .i64 d.left) := hr.cell
  have c4 : w.cell? ⟨g, 4, none⟩ = some (.bool d.dead) := hr.cell
  have c5 : w.cell? ⟨g, 5, none⟩ = some (.int .i64 d.ops) := hr.cell
  have f1 := hr.frozen (j := 1)
  have f2 := hr.frozen (j := 2)
  have f3 := hr.frozen (j := 3)
  have f4 := hr.frozen (j := 4)
  have f5 := hr.frozen (j := 5)
  by_cases hn : n < 0
  · rw [show lmax n = 0 from by simp [lmax, hn]]
    go_enter Try.func15, Try.ntmps15
    go_wp2
    go_end0
    exact ⟨rfl, ⟨sp, cap, hr.set0 3 (.int .i64 0), dk_set hr (by decide) ho 3 (.int .i64 0), rfl⟩, (Fr.refl _ _).setCell (by simp) _⟩
  · rw [show lmax n = n from by simp [lmax, hn]]
    go_enter Try.func15, Try.ntmps15
    go_wp2
    go_end0
    exact ⟨rfl, ⟨sp, cap, hr.set0 3 (.int .i64 n), dk_set hr (by decide) ho 3 (.int .i64 n), rfl⟩, (Fr.refl _ _).setCell (by simp) _⟩
end Go.Proofs.Ytmfcildkkeeneaa
