/- The reference of Encode by its kinds. -/
import Derived.Test.YtcdmjjlbeifgjaaRwParts
namespace Go.Proofs.Ytcdmjjlbeifgjaa

section
open Go.RowKit

theorem bytes_newAtRenc1 (w : World) (t : TypeId) (cs : List Int) (b : Nat) (hb : b = w.heap.size) : Bytes (w.alloc (.cells (v8 cs) t)) (some ⟨b, 0, none⟩) cs := by subst hb; exact bytes_new w t cs

set_option maxRecDepth 20000 in
set_option maxHeartbeats 1000000 in
theorem renc1z (m : M) (hkd : m.kind = 1) (lp dp : Option Addr) (lc dc : Nat) (w : World) (hF : Fld w m lp lc dp dc) (_hll : m.list.length ≤ 100000) (_hdl : m.data.length ≤ 100000) (hz : rowE m [] = 0) :
    Calls Try.prog 12 #[.agg (mc m lp lc dp dc)] w fun e w' => ∃ sp cap, e = .returned (.tuple #[.slice sp (1 :: [].flatMap (fun p => rB p m)).length cap, .int .i64 0]) ∧ Own8 w' w.heap.size 5 (.slice sp (1 :: [].flatMap (fun p => rB p m)).length cap) (1 :: [].flatMap (fun p => rB p m)) ∧ Below w.heap.size w w' := by
  have hk := hF.key
  have hR0 : Row (w.alloc (.cells (mc m lp lc dp dc) 28)) w.heap.size 28 (mc m lp lc dp dc) := Row.new w 28 _
  have hs0 : (w.alloc (.cells (mc m lp lc dp dc) 28)).heap.size = w.heap.size + 1 := by simp
  have hK0 : (w.alloc (.cells (mc m lp lc dp dc) 28)).cell? ⟨w.heap.size, 0, none⟩ = some (.int .i64 1) := (hR0.cell.trans mc0).trans (by rw [hkd])
  have hBw0 : Below w.heap.size w (w.alloc (.cells (mc m lp lc dp dc) 28)) := (Below.refl _ _).alloc (Nat.le_refl _) _
  have hB1 : Below (w.heap.size + 1) (w.alloc (.cells (mc m lp lc dp dc) 28)) (((w.alloc (.cells (mc m lp lc dp dc) 28)).alloc (.cells #[.int .u8 1] 5)).alloc (.cells #[.slice (some ⟨w.heap.size + 1, 0, none⟩) 1 1, .int .i64 0] 55)) := ((Below.refl _ _).alloc (by simp) _).alloc (by simp) _
  have hR1 := hR0.below hB1 (by omega)
  have hK1 : (((w.alloc (.cells (mc m lp lc dp dc) 28)).alloc (.cells #[.int .u8 1] 5)).alloc (.cells #[.slice (some ⟨w.heap.size + 1, 0, none⟩) 1 1, .int .i64 0] 55)).cell? ⟨w.heap.size, 0, none⟩ = some (.int .i64 1) := (hR1.cell.trans mc0).trans (by rw [hkd])
  have hrw : Row (((w.alloc (.cells (mc m lp lc dp dc) 28)).alloc (.cells #[.int .u8 1] 5)).alloc (.cells #[.slice (some ⟨w.heap.size + 1, 0, none⟩) 1 1, .int .i64 0] 55)) (w.heap.size + 1 + 1) 55 #[.slice (some ⟨w.heap.size + 1, 0, none⟩) 1 1, .int .i64 0] := Row.newAt _ 55 _ _ (by simp)
  have how : Own8 (((w.alloc (.cells (mc m lp lc dp dc) 28)).alloc (.cells #[.int .u8 1] 5)).alloc (.cells #[.slice (some ⟨w.heap.size + 1, 0, none⟩) 1 1, .int .i64 0] 55)) (w.heap.size + 1) 5 (.slice (some ⟨w.heap.size + 1, 0, none⟩) 1 1) [1] := by
    obtain ⟨_, sp, cap, hr, ho⟩ := RW.new (w.alloc (.cells (mc m lp lc dp dc) 28)) 1
    rw [hs0] at hr ho
    have := hr.symm.trans hrw
    injection this with this
    injection this with this
    injection this with this
    injection this with e1 e2
    injection e1 with e1 e3 e4
    subst e1; subst e4
    exact ho
  have hc90 : (((w.alloc (.cells (mc m lp lc dp dc) 28)).alloc (.cells #[.int .u8 1] 5)).alloc (.cells #[.slice (some ⟨w.heap.size + 1, 0, none⟩) 1 1, .int .i64 0] 55)).cell? ⟨w.heap.size + 1 + 1, 0, none⟩ = some (.slice (some ⟨w.heap.size + 1, 0, none⟩) 1 1) := hrw.cell
  have hc91 : (((w.alloc (.cells (mc m lp lc dp dc) 28)).alloc (.cells #[.int .u8 1] 5)).alloc (.cells #[.slice (some ⟨w.heap.size + 1, 0, none⟩) 1 1, .int .i64 0] 55)).cell? ⟨w.heap.size + 1 + 1, 1, none⟩ = some (.int .i64 0) := hrw.cell
  have hEq : Hid (0 = rowE m []) := by
    show _ = _
    rfl
  obtain ⟨xs, hxs⟩ : ∃ xs : List Int, xs = (1 :: [].flatMap (fun p => rB p m)) := ⟨_, rfl⟩
  rw [← hxs]
  have hBq : Hid ([1] = xs) := by
    show _ = _
    rw [hxs]
    simp
  clear hxs
  have hz' : Hid (rowE m [] = 0) := hz
  clear hz  
  go_enter Try.func12, Try.ntmps12
  go_wp2
  go_ret2
  have e1 := hBq.out
  subst e1
  exact ⟨_, _, rfl, how.mono (by omega), hBw0.trans (hB1.mono (by omega))⟩
end

section
open Go.RowKit

set_option maxRecDepth 20000 in
set_option maxHeartbeats 1000000 in
theorem renc2z (m : M) (hkd : m.kind = 2) (lp dp : Option Addr) (lc dc : Nat) (w : World) (hF : Fld w m lp lc dp dc) (hll : m.list.length ≤ 100000) (hdl : m.data.length ≤ 100000) (hz : rowE m [0, 2] = 0) :
    Calls Try.prog 12 #[.agg (mc m lp lc dp dc)] w fun e w' => ∃ sp cap, e = .returned (.tuple #[.slice sp (2 :: [0, 2].flatMap (fun p => rB p m)).length cap, .int .i64 0]) ∧ Own8 w' w.heap.size 5 (.slice sp (2 :: [0, 2].flatMap (fun p => rB p m)).length cap) (2 :: [0, 2].flatMap (fun p => rB p m)) ∧ Below w.heap.size w w' := by
  have hk := hF.key
  have hR0 : Row (w.alloc (.cells (mc m lp lc dp dc) 28)) w.heap.size 28 (mc m lp lc dp dc) := Row.new w 28 _
  have hs0 : (w.alloc (.cells (mc m lp lc dp dc) 28)).heap.size = w.heap.size + 1 := by simp
  have hK0 : (w.alloc (.cells (mc m lp lc dp dc) 28)).cell? ⟨w.heap.size, 0, none⟩ = some (.int .i64 2) := (hR0.cell.trans mc0).trans (by rw [hkd])
  have hBw0 : Below w.heap.size w (w.alloc (.cells (mc m lp lc dp dc) 28)) := (Below.refl _ _).alloc (Nat.le_refl _) _
  have hW1 := RW.new (w.alloc (.cells (mc m lp lc dp dc) 28)) 2
  rw [hs0] at hW1
  have hB1 : Below (w.heap.size + 1) (w.alloc (.cells (mc m lp lc dp dc) 28)) (((w.alloc (.cells (mc m lp lc dp dc) 28)).alloc (.cells #[.int .u8 2] 5)).alloc (.cells #[.slice (some ⟨w.heap.size + 1, 0, none⟩) 1 1, .int .i64 0] 55)) := ((Below.refl _ _).alloc (by simp) _).alloc (by simp) _
  have hR1 := hR0.below hB1 (by omega)
  have hK1 : (((w.alloc (.cells (mc m lp lc dp dc) 28)).alloc (.cells #[.int .u8 2] 5)).alloc (.cells #[.slice (some ⟨w.heap.size + 1, 0, none⟩) 1 1, .int .i64 0] 55)).cell? ⟨w.heap.size, 0, none⟩ = some (.int .i64 2) := (hR1.cell.trans mc0).trans (by rw [hkd])
  have hc1 := (hR1.cell (j := 2)).trans mc2
  have hx0 : ∀ W E bs g, Below (w.heap.size + 1) (w.alloc (.cells (mc m lp lc dp dc) 28)) W → RW W (w.heap.size + 1) g E bs → bs.length ≤ 10000000 → Calls Try.prog 21 #[.pointer (some ⟨g, 0, none⟩), .int .i64 m.pred, .int .i64 (-1)] W fun e w' => e = .returned (.tuple #[]) ∧ Below (w.heap.size + 1) (w.alloc (.cells (mc m lp lc dp dc) 28)) w' ∧ RW w' (w.heap.size + 1) g (fst2 E (partE 0 m)) (bs ++ rB 0 m) := fun W E bs g h1 h2 h3 => by
    have := e_pred m (w.alloc (.cells (mc m lp lc dp dc) 28)) W g E bs (by rw [hs0]; exact h1) (by rw [hs0]; exact h2) h3
    rwa [hs0] at this
  have hl0 := rB_len 0 m hk hll hdl
  have hL0 : ([2] : List Int).length ≤ 10000000 := by simp only [List.length_cons, List.length_nil]; omega
  have hx2 : ∀ W E bs g, Below (w.heap.size + 1) (w.alloc (.cells (mc m lp lc dp dc) 28)) W → RW W (w.heap.size + 1) g E bs → bs.length ≤ 10000000 → Calls Try.prog 22 #[.pointer (some ⟨g, 0, none⟩), .slice lp m.list.length lc] W fun e w' => e = .returned (.tuple #[]) ∧ Below (w.heap.size + 1) (w.alloc (.cells (mc m lp lc dp dc) 28)) w' ∧ RW w' (w.heap.size + 1) g (fst2 E (partE 2 m)) (bs ++ rB 2 m) := fun W E bs g h1 h2 h3 => by
    have := e_list m (w.alloc (.cells (mc m lp lc dp dc) 28)) W g E bs (by rw [hs0]; exact h1) (by rw [hs0]; exact h2) h3 lp lc (hF.below hBw0).ints hll
    rwa [hs0] at this
  have hl2 := rB_len 2 m hk hll hdl
  have hL1 : ([2] ++ rB 0 m : List Int).length ≤ 10000000 := by simp only [List.length_append, List.length_cons, List.length_nil]; omega
  have hEq : Hid (fst2 (fst2 (0) (partE 0 m)) (partE 2 m) = rowE m [0, 2]) := by
    show _ = _
    simp only [rowE_cons, show rowE m [] = 0 from rfl, fst2_zero, fst2_assoc]
    rfl
  obtain ⟨xs, hxs⟩ : ∃ xs : List Int, xs = (2 :: [0, 2].flatMap (fun p => rB p m)) := ⟨_, rfl⟩
  rw [← hxs]
  have hBq : Hid ([2] ++ rB 0 m ++ rB 2 m = xs) := by show _ = _; rw [hxs]; simp
  clear hxs
  have hz' : Hid (rowE m [0, 2] = 0) := hz
  clear hz hs0 hl0 hl2
  go_enter Try.func12, Try.ntmps12
  go_wp2_with first | (go_at_call 21; (with_reducible refine Calls.mono (hx0 _ _ _ _ hB1 hW1 hL0) ?_); rintro e w2 ⟨rfl, hB2, hW2⟩; have hR2 := hR0.below hB2 (Nat.lt_succ_self _); have hK2 : w2.cell? ⟨w.heap.size, 0, none⟩ = some (.int .i64 2) := (hR2.cell.trans mc0).trans (by rw [hkd]); have hc2 := (hR2.cell (j := 3)).trans mc3) | (go_at_call 22; (with_reducible refine Calls.mono (hx2 _ _ _ _ hB2 hW2 hL1) ?_); rintro e w3 ⟨rfl, hB3, hW3⟩; have hR3 := hR0.below hB3 (Nat.lt_succ_self _); have hK3 : w3.cell? ⟨w.heap.size, 0, none⟩ = some (.int .i64 2) := (hR3.cell.trans mc0).trans (by rw [hkd]); obtain ⟨hg9, sp9, cap9, hr9, ho9⟩ := hW3.cast (hEq.out.trans hz'.out) hBq.out; have hc90 : w3.cell? ⟨w.heap.size + 1 + 1, 0, none⟩ = some (.slice sp9 xs.length cap9) := hr9.cell; have hc91 : w3.cell? ⟨w.heap.size + 1 + 1, 1, none⟩ = some (.int .i64 0) := hr9.cell; have hB9 := hB3)
  go_ret2
  exact ⟨sp9, cap9, rfl, ho9.mono (by omega), hBw0.trans (hB9.mono (by omega))⟩

set_option maxRecDepth 20000 in
set_option maxHeartbeats 1000000 in
theorem renc2e (m : M) (hkd : m.kind = 2) (lp dp : Option Addr) (lc dc : Nat) (w : World) (hF : Fld w m lp lc dp dc) (hll : m.list.length ≤ 100000) (hdl : m.data.length ≤ 100000) (F : Int) (hne : F ≠ 0) (hz : rowE m [0, 2] = F) :
    Calls Try.prog 12 #[.agg (mc m lp lc dp dc)] w fun e w' => e = .returned (.tuple #[.slice none 0 0, .int .i64 F]) ∧ Below w.heap.size w w' := by
  have hk := hF.key
  have hR0 : Row (w.alloc (.cells (mc m lp lc dp dc) 28)) w.heap.size 28 (mc m lp lc dp dc) := Row.new w 28 _
  have hs0 : (w.alloc (.cells (mc m lp lc dp dc) 28)).heap.size = w.heap.size + 1 := by simp
  have hK0 : (w.alloc (.cells (mc m lp lc dp dc) 28)).cell? ⟨w.heap.size, 0, none⟩ = some (.int .i64 2) := (hR0.cell.trans mc0).trans (by rw [hkd])
  have hBw0 : Below w.heap.size w (w.alloc (.cells (mc m lp lc dp dc) 28)) := (Below.refl _ _).alloc (Nat.le_refl _) _
  have hW1 := RW.new (w.alloc (.cells (mc m lp lc dp dc) 28)) 2
  rw [hs0] at hW1
  have hB1 : Below (w.heap.size + 1) (w.alloc (.cells (mc m lp lc dp dc) 28)) (((w.alloc (.cells (mc m lp lc dp dc) 28)).alloc (.cells #[.int .u8 2] 5)).alloc (.cells #[.slice (some ⟨w.heap.size + 1, 0, none⟩) 1 1, .int .i64 0] 55)) := ((Below.refl _ _).alloc (by simp) _).alloc (by simp) _
  have hR1 := hR0.below hB1 (by omega)
  have hK1 : (((w.alloc (.cells (mc m lp lc dp dc) 28)).alloc (.cells #[.int .u8 2] 5)).alloc (.cells #[.slice (some ⟨w.heap.size + 1, 0, none⟩) 1 1, .int .i64 0] 55)).cell? ⟨w.heap.size, 0, none⟩ = some (.int .i64 2) := (hR1.cell.trans mc0).trans (by rw [hkd])
  have hc1 := (hR1.cell (j := 2)).trans mc2
  have hx0 : ∀ W E bs g, Below (w.heap.size + 1) (w.alloc (.cells (mc m lp lc dp dc) 28)) W → RW W (w.heap.size + 1) g E bs → bs.length ≤ 10000000 → Calls Try.prog 21 #[.pointer (some ⟨g, 0, none⟩), .int .i64 m.pred, .int .i64 (-1)] W fun e w' => e = .returned (.tuple #[]) ∧ Below (w.heap.size + 1) (w.alloc (.cells (mc m lp lc dp dc) 28)) w' ∧ RW w' (w.heap.size + 1) g (fst2 E (partE 0 m)) (bs ++ rB 0 m) := fun W E bs g h1 h2 h3 => by
    have := e_pred m (w.alloc (.cells (mc m lp lc dp dc) 28)) W g E bs (by rw [hs0]; exact h1) (by rw [hs0]; exact h2) h3
    rwa [hs0] at this
  have hl0 := rB_len 0 m hk hll hdl
  have hL0 : ([2] : List Int).length ≤ 10000000 := by simp only [List.length_cons, List.length_nil]; omega
  have hx2 : ∀ W E bs g, Below (w.heap.size + 1) (w.alloc (.cells (mc m lp lc dp dc) 28)) W → RW W (w.heap.size + 1) g E bs → bs.length ≤ 10000000 → Calls Try.prog 22 #[.pointer (some ⟨g, 0, none⟩), .slice lp m.list.length lc] W fun e w' => e = .returned (.tuple #[]) ∧ Below (w.heap.size + 1) (w.alloc (.cells (mc m lp lc dp dc) 28)) w' ∧ RW w' (w.heap.size + 1) g (fst2 E (partE 2 m)) (bs ++ rB 2 m) := fun W E bs g h1 h2 h3 => by
    have := e_list m (w.alloc (.cells (mc m lp lc dp dc) 28)) W g E bs (by rw [hs0]; exact h1) (by rw [hs0]; exact h2) h3 lp lc (hF.below hBw0).ints hll
    rwa [hs0] at this
  have hl2 := rB_len 2 m hk hll hdl
  have hL1 : ([2] ++ rB 0 m : List Int).length ≤ 10000000 := by simp only [List.length_append, List.length_cons, List.length_nil]; omega
  have hEq : Hid (fst2 (fst2 (0) (partE 0 m)) (partE 2 m) = rowE m [0, 2]) := by
    show _ = _
    simp only [rowE_cons, show rowE m [] = 0 from rfl, fst2_zero, fst2_assoc]
    rfl
  obtain ⟨xs, hxs⟩ : ∃ xs : List Int, xs = (2 :: [0, 2].flatMap (fun p => rB p m)) := ⟨_, rfl⟩
  have hBq : Hid ([2] ++ rB 0 m ++ rB 2 m = xs) := by show _ = _; rw [hxs]; simp
  clear hxs
  have hz' : Hid (rowE m [0, 2] = F) := hz
  clear hz hs0 hl0 hl2
  have hd : (F == 0) = false := by simpa using hne
  go_enter Try.func12, Try.ntmps12
  go_wp2_with first | (go_at_call 21; (with_reducible refine Calls.mono (hx0 _ _ _ _ hB1 hW1 hL0) ?_); rintro e w2 ⟨rfl, hB2, hW2⟩; have hR2 := hR0.below hB2 (Nat.lt_succ_self _); have hK2 : w2.cell? ⟨w.heap.size, 0, none⟩ = some (.int .i64 2) := (hR2.cell.trans mc0).trans (by rw [hkd]); have hc2 := (hR2.cell (j := 3)).trans mc3) | (go_at_call 22; (with_reducible refine Calls.mono (hx2 _ _ _ _ hB2 hW2 hL1) ?_); rintro e w3 ⟨rfl, hB3, hW3⟩; have hR3 := hR0.below hB3 (Nat.lt_succ_self _); have hK3 : w3.cell? ⟨w.heap.size, 0, none⟩ = some (.int .i64 2) := (hR3.cell.trans mc0).trans (by rw [hkd]); obtain ⟨hg9, sp9, cap9, hr9, ho9⟩ := hW3.cast (hEq.out.trans hz'.out) hBq.out; have hc90 : w3.cell? ⟨w.heap.size + 1 + 1, 0, none⟩ = some (.slice sp9 xs.length cap9) := hr9.cell; have hc91 : w3.cell? ⟨w.heap.size + 1 + 1, 1, none⟩ = some (.int .i64 F) := hr9.cell; have hB9 := hB3)
  go_region
  go_wp2
  go_ret2
  have h9 := hBw0.trans (hB9.mono (show w.heap.size ≤ w.heap.size + 1 by omega))
  exact ⟨rfl, ⟨h9.os, h9.tape, h9.output, h9.size, h9.block⟩⟩
end

section
open Go.RowKit

set_option maxRecDepth 20000 in
set_option maxHeartbeats 1000000 in
theorem renc3z (m : M) (hkd : m.kind = 3) (lp dp : Option Addr) (lc dc : Nat) (w : World) (hF : Fld w m lp lc dp dc) (hll : m.list.length ≤ 100000) (hdl : m.data.length ≤ 100000) (hz : rowE m [1] = 0) :
    Calls Try.prog 12 #[.agg (mc m lp lc dp dc)] w fun e w' => ∃ sp cap, e = .returned (.tuple #[.slice sp (3 :: [1].flatMap (fun p => rB p m)).length cap, .int .i64 0]) ∧ Own8 w' w.heap.size 5 (.slice sp (3 :: [1].flatMap (fun p => rB p m)).length cap) (3 :: [1].flatMap (fun p => rB p m)) ∧ Below w.heap.size w w' := by
  have hk := hF.key
  have hR0 : Row (w.alloc (.cells (mc m lp lc dp dc) 28)) w.heap.size 28 (mc m lp lc dp dc) := Row.new w 28 _
  have hs0 : (w.alloc (.cells (mc m lp lc dp dc) 28)).heap.size = w.heap.size + 1 := by simp
  have hK0 : (w.alloc (.cells (mc m lp lc dp dc) 28)).cell? ⟨w.heap.size, 0, none⟩ = some (.int .i64 3) := (hR0.cell.trans mc0).trans (by rw [hkd])
  have hBw0 : Below w.heap.size w (w.alloc (.cells (mc m lp lc dp dc) 28)) := (Below.refl _ _).alloc (Nat.le_refl _) _
  have hW1 := RW.new (w.alloc (.cells (mc m lp lc dp dc) 28)) 3
  rw [hs0] at hW1
  have hB1 : Below (w.heap.size + 1) (w.alloc (.cells (mc m lp lc dp dc) 28)) (((w.alloc (.cells (mc m lp lc dp dc) 28)).alloc (.cells #[.int .u8 3] 5)).alloc (.cells #[.slice (some ⟨w.heap.size + 1, 0, none⟩) 1 1, .int .i64 0] 55)) := ((Below.refl _ _).alloc (by simp) _).alloc (by simp) _
  have hR1 := hR0.below hB1 (by omega)
  have hK1 : (((w.alloc (.cells (mc m lp lc dp dc) 28)).alloc (.cells #[.int .u8 3] 5)).alloc (.cells #[.slice (some ⟨w.heap.size + 1, 0, none⟩) 1 1, .int .i64 0] 55)).cell? ⟨w.heap.size, 0, none⟩ = some (.int .i64 3) := (hR1.cell.trans mc0).trans (by rw [hkd])
  have hc1 := (hR1.cell (j := 1)).trans mc1
  have hx1 : ∀ W E bs g, Below (w.heap.size + 1) (w.alloc (.cells (mc m lp lc dp dc) 28)) W → RW W (w.heap.size + 1) g E bs → bs.length ≤ 10000000 → Calls Try.prog 21 #[.pointer (some ⟨g, 0, none⟩), .int .i64 m.node, .int .i64 0] W fun e w' => e = .returned (.tuple #[]) ∧ Below (w.heap.size + 1) (w.alloc (.cells (mc m lp lc dp dc) 28)) w' ∧ RW w' (w.heap.size + 1) g (fst2 E (partE 1 m)) (bs ++ rB 1 m) := fun W E bs g h1 h2 h3 => by
    have := e_node m (w.alloc (.cells (mc m lp lc dp dc) 28)) W g E bs (by rw [hs0]; exact h1) (by rw [hs0]; exact h2) h3
    rwa [hs0] at this
  have hl1 := rB_len 1 m hk hll hdl
  have hL0 : ([3] : List Int).length ≤ 10000000 := by simp only [List.length_cons, List.length_nil]; omega
  have hEq : Hid (fst2 (0) (partE 1 m) = rowE m [1]) := by
    show _ = _
    simp only [rowE_cons, show rowE m [] = 0 from rfl, fst2_zero]
    rfl
  obtain ⟨xs, hxs⟩ : ∃ xs : List Int, xs = (3 :: [1].flatMap (fun p => rB p m)) := ⟨_, rfl⟩
  rw [← hxs]
  have hBq : Hid ([3] ++ rB 1 m = xs) := by show _ = _; rw [hxs]; simp
  clear hxs
  have hz' : Hid (rowE m [1] = 0) := hz
  clear hz hs0 hl1
  go_enter Try.func12, Try.ntmps12
  go_wp2_with (go_at_call 21; (with_reducible refine Calls.mono (hx1 _ _ _ _ hB1 hW1 hL0) ?_); rintro e w2 ⟨rfl, hB2, hW2⟩; have hR2 := hR0.below hB2 (Nat.lt_succ_self _); have hK2 : w2.cell? ⟨w.heap.size, 0, none⟩ = some (.int .i64 3) := (hR2.cell.trans mc0).trans (by rw [hkd]); obtain ⟨hg9, sp9, cap9, hr9, ho9⟩ := hW2.cast (hEq.out.trans hz'.out) hBq.out; have hc90 : w2.cell? ⟨w.heap.size + 1 + 1, 0, none⟩ = some (.slice sp9 xs.length cap9) := hr9.cell; have hc91 : w2.cell? ⟨w.heap.size + 1 + 1, 1, none⟩ = some (.int .i64 0) := hr9.cell; have hB9 := hB2)
  go_ret2
  exact ⟨sp9, cap9, rfl, ho9.mono (by omega), hBw0.trans (hB9.mono (by omega))⟩

set_option maxRecDepth 20000 in
set_option maxHeartbeats 1000000 in
theorem renc3e (m : M) (hkd : m.kind = 3) (lp dp : Option Addr) (lc dc : Nat) (w : World) (hF : Fld w m lp lc dp dc) (hll : m.list.length ≤ 100000) (hdl : m.data.length ≤ 100000) (F : Int) (hne : F ≠ 0) (hz : rowE m [1] = F) :
    Calls Try.prog 12 #[.agg (mc m lp lc dp dc)] w fun e w' => e = .returned (.tuple #[.slice none 0 0, .int .i64 F]) ∧ Below w.heap.size w w' := by
  have hk := hF.key
  have hR0 : Row (w.alloc (.cells (mc m lp lc dp dc) 28)) w.heap.size 28 (mc m lp lc dp dc) := Row.new w 28 _
  have hs0 : (w.alloc (.cells (mc m lp lc dp dc) 28)).heap.size = w.heap.size + 1 := by simp
  have hK0 : (w.alloc (.cells (mc m lp lc dp dc) 28)).cell? ⟨w.heap.size, 0, none⟩ = some (.int .i64 3) := (hR0.cell.trans mc0).trans (by rw [hkd])
  have hBw0 : Below w.heap.size w (w.alloc (.cells (mc m lp lc dp dc) 28)) := (Below.refl _ _).alloc (Nat.le_refl _) _
  have hW1 := RW.new (w.alloc (.cells (mc m lp lc dp dc) 28)) 3
  rw [hs0] at hW1
  have hB1 : Below (w.heap.size + 1) (w.alloc (.cells (mc m lp lc dp dc) 28)) (((w.alloc (.cells (mc m lp lc dp dc) 28)).alloc (.cells #[.int .u8 3] 5)).alloc (.cells #[.slice (some ⟨w.heap.size + 1, 0, none⟩) 1 1, .int .i64 0] 55)) := ((Below.refl _ _).alloc (by simp) _).alloc (by simp) _
  have hR1 := hR0.below hB1 (by omega)
  have hK1 : (((w.alloc (.cells (mc m lp lc dp dc) 28)).alloc (.cells #[.int .u8 3] 5)).alloc (.cells #[.slice (some ⟨w.heap.size + 1, 0, none⟩) 1 1, .int .i64 0] 55)).cell? ⟨w.heap.size, 0, none⟩ = some (.int .i64 3) := (hR1.cell.trans mc0).trans (by rw [hkd])
  have hc1 := (hR1.cell (j := 1)).trans mc1
  have hx1 : ∀ W E bs g, Below (w.heap.size + 1) (w.alloc (.cells (mc m lp lc dp dc) 28)) W → RW W (w.heap.size + 1) g E bs → bs.length ≤ 10000000 → Calls Try.prog 21 #[.pointer (some ⟨g, 0, none⟩), .int .i64 m.node, .int .i64 0] W fun e w' => e = .returned (.tuple #[]) ∧ Below (w.heap.size + 1) (w.alloc (.cells (mc m lp lc dp dc) 28)) w' ∧ RW w' (w.heap.size + 1) g (fst2 E (partE 1 m)) (bs ++ rB 1 m) := fun W E bs g h1 h2 h3 => by
    have := e_node m (w.alloc (.cells (mc m lp lc dp dc) 28)) W g E bs (by rw [hs0]; exact h1) (by rw [hs0]; exact h2) h3
    rwa [hs0] at this
  have hl1 := rB_len 1 m hk hll hdl
  have hL0 : ([3] : List Int).length ≤ 10000000 := by simp only [List.length_cons, List.length_nil]; omega
  have hEq : Hid (fst2 (0) (partE 1 m) = rowE m [1]) := by
    show _ = _
    simp only [rowE_cons, show rowE m [] = 0 from rfl, fst2_zero]
    rfl
  obtain ⟨xs, hxs⟩ : ∃ xs : List Int, xs = (3 :: [1].flatMap (fun p => rB p m)) := ⟨_, rfl⟩
  have hBq : Hid ([3] ++ rB 1 m = xs) := by show _ = _; rw [hxs]; simp
  clear hxs
  have hz' : Hid (rowE m [1] = F) := hz
  clear hz hs0 hl1
  have hd : (F == 0) = false := by simpa using hne
  go_enter Try.func12, Try.ntmps12
  go_wp2_with (go_at_call 21; (with_reducible refine Calls.mono (hx1 _ _ _ _ hB1 hW1 hL0) ?_); rintro e w2 ⟨rfl, hB2, hW2⟩; have hR2 := hR0.below hB2 (Nat.lt_succ_self _); have hK2 : w2.cell? ⟨w.heap.size, 0, none⟩ = some (.int .i64 3) := (hR2.cell.trans mc0).trans (by rw [hkd]); obtain ⟨hg9, sp9, cap9, hr9, ho9⟩ := hW2.cast (hEq.out.trans hz'.out) hBq.out; have hc90 : w2.cell? ⟨w.heap.size + 1 + 1, 0, none⟩ = some (.slice sp9 xs.length cap9) := hr9.cell; have hc91 : w2.cell? ⟨w.heap.size + 1 + 1, 1, none⟩ = some (.int .i64 F) := hr9.cell; have hB9 := hB2)
  go_region
  go_wp2
  go_ret2
  have h9 := hBw0.trans (hB9.mono (show w.heap.size ≤ w.heap.size + 1 by omega))
  exact ⟨rfl, ⟨h9.os, h9.tape, h9.output, h9.size, h9.block⟩⟩
end

section
open Go.RowKit

set_option maxRecDepth 20000 in
set_option maxHeartbeats 1000000 in
theorem renc4z (m : M) (hkd : m.kind = 4) (lp dp : Option Addr) (lc dc : Nat) (w : World) (hF : Fld w m lp lc dp dc) (hll : m.list.length ≤ 100000) (hdl : m.data.length ≤ 100000) (hz : rowE m [4] = 0) :
    Calls Try.prog 12 #[.agg (mc m lp lc dp dc)] w fun e w' => ∃ sp cap, e = .returned (.tuple #[.slice sp (4 :: [4].flatMap (fun p => rB p m)).length cap, .int .i64 0]) ∧ Own8 w' w.heap.size 5 (.slice sp (4 :: [4].flatMap (fun p => rB p m)).length cap) (4 :: [4].flatMap (fun p => rB p m)) ∧ Below w.heap.size w w' := by
  have hk := hF.key
  have hR0 : Row (w.alloc (.cells (mc m lp lc dp dc) 28)) w.heap.size 28 (mc m lp lc dp dc) := Row.new w 28 _
  have hs0 : (w.alloc (.cells (mc m lp lc dp dc) 28)).heap.size = w.heap.size + 1 := by simp
  have hK0 : (w.alloc (.cells (mc m lp lc dp dc) 28)).cell? ⟨w.heap.size, 0, none⟩ = some (.int .i64 4) := (hR0.cell.trans mc0).trans (by rw [hkd])
  have hBw0 : Below w.heap.size w (w.alloc (.cells (mc m lp lc dp dc) 28)) := (Below.refl _ _).alloc (Nat.le_refl _) _
  have hW1 := RW.new (w.alloc (.cells (mc m lp lc dp dc) 28)) 4
  rw [hs0] at hW1
  have hB1 : Below (w.heap.size + 1) (w.alloc (.cells (mc m lp lc dp dc) 28)) (((w.alloc (.cells (mc m lp lc dp dc) 28)).alloc (.cells #[.int .u8 4] 5)).alloc (.cells #[.slice (some ⟨w.heap.size + 1, 0, none⟩) 1 1, .int .i64 0] 55)) := ((Below.refl _ _).alloc (by simp) _).alloc (by simp) _
  have hR1 := hR0.below hB1 (by omega)
  have hK1 : (((w.alloc (.cells (mc m lp lc dp dc) 28)).alloc (.cells #[.int .u8 4] 5)).alloc (.cells #[.slice (some ⟨w.heap.size + 1, 0, none⟩) 1 1, .int .i64 0] 55)).cell? ⟨w.heap.size, 0, none⟩ = some (.int .i64 4) := (hR1.cell.trans mc0).trans (by rw [hkd])
  have hc1 := (hR1.cell (j := 39)).trans (mc39 hk)
  have hx4 : ∀ W E bs g, Below (w.heap.size + 1) (w.alloc (.cells (mc m lp lc dp dc) 28)) W → RW W (w.heap.size + 1) g E bs → bs.length ≤ 10000000 → Calls Try.prog 23 #[.pointer (some ⟨g, 0, none⟩), .int .i64 m.err] W fun e w' => e = .returned (.tuple #[]) ∧ Below (w.heap.size + 1) (w.alloc (.cells (mc m lp lc dp dc) 28)) w' ∧ RW w' (w.heap.size + 1) g (fst2 E (partE 4 m)) (bs ++ rB 4 m) := fun W E bs g h1 h2 h3 => by
    have := e_err m (w.alloc (.cells (mc m lp lc dp dc) 28)) W g E bs (by rw [hs0]; exact h1) (by rw [hs0]; exact h2) h3
    rwa [hs0] at this
  have hl4 := rB_len 4 m hk hll hdl
  have hL0 : ([4] : List Int).length ≤ 10000000 := by simp only [List.length_cons, List.length_nil]; omega
  have hEq : Hid (fst2 (0) (partE 4 m) = rowE m [4]) := by
    show _ = _
    simp only [rowE_cons, show rowE m [] = 0 from rfl, fst2_zero]
    rfl
  obtain ⟨xs, hxs⟩ : ∃ xs : List Int, xs = (4 :: [4].flatMap (fun p => rB p m)) := ⟨_, rfl⟩
  rw [← hxs]
  have hBq : Hid ([4] ++ rB 4 m = xs) := by show _ = _; rw [hxs]; simp
  clear hxs
  have hz' : Hid (rowE m [4] = 0) := hz
  clear hz hs0 hl4
  go_enter Try.func12, Try.ntmps12
  go_wp2_with (go_at_call 23; (with_reducible refine Calls.mono (hx4 _ _ _ _ hB1 hW1 hL0) ?_); rintro e w2 ⟨rfl, hB2, hW2⟩; have hR2 := hR0.below hB2 (Nat.lt_succ_self _); have hK2 : w2.cell? ⟨w.heap.size, 0, none⟩ = some (.int .i64 4) := (hR2.cell.trans mc0).trans (by rw [hkd]); obtain ⟨hg9, sp9, cap9, hr9, ho9⟩ := hW2.cast (hEq.out.trans hz'.out) hBq.out; have hc90 : w2.cell? ⟨w.heap.size + 1 + 1, 0, none⟩ = some (.slice sp9 xs.length cap9) := hr9.cell; have hc91 : w2.cell? ⟨w.heap.size + 1 + 1, 1, none⟩ = some (.int .i64 0) := hr9.cell; have hB9 := hB2)
  go_ret2
  exact ⟨sp9, cap9, rfl, ho9.mono (by omega), hBw0.trans (hB9.mono (by omega))⟩

set_option maxRecDepth 20000 in
set_option maxHeartbeats 1000000 in
theorem renc4e (m : M) (hkd : m.kind = 4) (lp dp : Option Addr) (lc dc : Nat) (w : World) (hF : Fld w m lp lc dp dc) (hll : m.list.length ≤ 100000) (hdl : m.data.length ≤ 100000) (F : Int) (hne : F ≠ 0) (hz : rowE m [4] = F) :
    Calls Try.prog 12 #[.agg (mc m lp lc dp dc)] w fun e w' => e = .returned (.tuple #[.slice none 0 0, .int .i64 F]) ∧ Below w.heap.size w w' := by
  have hk := hF.key
  have hR0 : Row (w.alloc (.cells (mc m lp lc dp dc) 28)) w.heap.size 28 (mc m lp lc dp dc) := Row.new w 28 _
  have hs0 : (w.alloc (.cells (mc m lp lc dp dc) 28)).heap.size = w.heap.size + 1 := by simp
  have hK0 : (w.alloc (.cells (mc m lp lc dp dc) 28)).cell? ⟨w.heap.size, 0, none⟩ = some (.int .i64 4) := (hR0.cell.trans mc0).trans (by rw [hkd])
  have hBw0 : Below w.heap.size w (w.alloc (.cells (mc m lp lc dp dc) 28)) := (Below.refl _ _).alloc (Nat.le_refl _) _
  have hW1 := RW.new (w.alloc (.cells (mc m lp lc dp dc) 28)) 4
  rw [hs0] at hW1
  have hB1 : Below (w.heap.size + 1) (w.alloc (.cells (mc m lp lc dp dc) 28)) (((w.alloc (.cells (mc m lp lc dp dc) 28)).alloc (.cells #[.int .u8 4] 5)).alloc (.cells #[.slice (some ⟨w.heap.size + 1, 0, none⟩) 1 1, .int .i64 0] 55)) := ((Below.refl _ _).alloc (by simp) _).alloc (by simp) _
  have hR1 := hR0.below hB1 (by omega)
  have hK1 : (((w.alloc (.cells (mc m lp lc dp dc) 28)).alloc (.cells #[.int .u8 4] 5)).alloc (.cells #[.slice (some ⟨w.heap.size + 1, 0, none⟩) 1 1, .int .i64 0] 55)).cell? ⟨w.heap.size, 0, none⟩ = some (.int .i64 4) := (hR1.cell.trans mc0).trans (by rw [hkd])
  have hc1 := (hR1.cell (j := 39)).trans (mc39 hk)
  have hx4 : ∀ W E bs g, Below (w.heap.size + 1) (w.alloc (.cells (mc m lp lc dp dc) 28)) W → RW W (w.heap.size + 1) g E bs → bs.length ≤ 10000000 → Calls Try.prog 23 #[.pointer (some ⟨g, 0, none⟩), .int .i64 m.err] W fun e w' => e = .returned (.tuple #[]) ∧ Below (w.heap.size + 1) (w.alloc (.cells (mc m lp lc dp dc) 28)) w' ∧ RW w' (w.heap.size + 1) g (fst2 E (partE 4 m)) (bs ++ rB 4 m) := fun W E bs g h1 h2 h3 => by
    have := e_err m (w.alloc (.cells (mc m lp lc dp dc) 28)) W g E bs (by rw [hs0]; exact h1) (by rw [hs0]; exact h2) h3
    rwa [hs0] at this
  have hl4 := rB_len 4 m hk hll hdl
  have hL0 : ([4] : List Int).length ≤ 10000000 := by simp only [List.length_cons, List.length_nil]; omega
  have hEq : Hid (fst2 (0) (partE 4 m) = rowE m [4]) := by
    show _ = _
    simp only [rowE_cons, show rowE m [] = 0 from rfl, fst2_zero]
    rfl
  obtain ⟨xs, hxs⟩ : ∃ xs : List Int, xs = (4 :: [4].flatMap (fun p => rB p m)) := ⟨_, rfl⟩
  have hBq : Hid ([4] ++ rB 4 m = xs) := by show _ = _; rw [hxs]; simp
  clear hxs
  have hz' : Hid (rowE m [4] = F) := hz
  clear hz hs0 hl4
  have hd : (F == 0) = false := by simpa using hne
  go_enter Try.func12, Try.ntmps12
  go_wp2_with (go_at_call 23; (with_reducible refine Calls.mono (hx4 _ _ _ _ hB1 hW1 hL0) ?_); rintro e w2 ⟨rfl, hB2, hW2⟩; have hR2 := hR0.below hB2 (Nat.lt_succ_self _); have hK2 : w2.cell? ⟨w.heap.size, 0, none⟩ = some (.int .i64 4) := (hR2.cell.trans mc0).trans (by rw [hkd]); obtain ⟨hg9, sp9, cap9, hr9, ho9⟩ := hW2.cast (hEq.out.trans hz'.out) hBq.out; have hc90 : w2.cell? ⟨w.heap.size + 1 + 1, 0, none⟩ = some (.slice sp9 xs.length cap9) := hr9.cell; have hc91 : w2.cell? ⟨w.heap.size + 1 + 1, 1, none⟩ = some (.int .i64 F) := hr9.cell; have hB9 := hB2)
  go_region
  go_wp2
  go_ret2
  have h9 := hBw0.trans (hB9.mono (show w.heap.size ≤ w.heap.size + 1 by omega))
  exact ⟨rfl, ⟨h9.os, h9.tape, h9.output, h9.size, h9.block⟩⟩
end

section
open Go.RowKit

theorem bytes_newAtRenc5 (w : World) (t : TypeId) (cs : List Int) (b : Nat) (hb : b = w.heap.size) : Bytes (w.alloc (.cells (v8 cs) t)) (some ⟨b, 0, none⟩) cs := by subst hb; exact bytes_new w t cs

set_option maxRecDepth 20000 in
set_option maxHeartbeats 1000000 in
theorem renc5z (m : M) (hkd : m.kind = 5) (lp dp : Option Addr) (lc dc : Nat) (w : World) (hF : Fld w m lp lc dp dc) (_hll : m.list.length ≤ 100000) (_hdl : m.data.length ≤ 100000) (hz : rowE m [5] = 0) :
    Calls Try.prog 12 #[.agg (mc m lp lc dp dc)] w fun e w' => ∃ sp cap, e = .returned (.tuple #[.slice sp (5 :: [5].flatMap (fun p => rB p m)).length cap, .int .i64 0]) ∧ Own8 w' w.heap.size 5 (.slice sp (5 :: [5].flatMap (fun p => rB p m)).length cap) (5 :: [5].flatMap (fun p => rB p m)) ∧ Below w.heap.size w w' := by
  have hk := hF.key
  have hR0 : Row (w.alloc (.cells (mc m lp lc dp dc) 28)) w.heap.size 28 (mc m lp lc dp dc) := Row.new w 28 _
  have hs0 : (w.alloc (.cells (mc m lp lc dp dc) 28)).heap.size = w.heap.size + 1 := by simp
  have hK0 : (w.alloc (.cells (mc m lp lc dp dc) 28)).cell? ⟨w.heap.size, 0, none⟩ = some (.int .i64 5) := (hR0.cell.trans mc0).trans (by rw [hkd])
  have hBw0 : Below w.heap.size w (w.alloc (.cells (mc m lp lc dp dc) 28)) := (Below.refl _ _).alloc (Nat.le_refl _) _
  have hB1 : Below (w.heap.size + 1) (w.alloc (.cells (mc m lp lc dp dc) 28)) (((w.alloc (.cells (mc m lp lc dp dc) 28)).alloc (.cells #[.int .u8 5] 5)).alloc (.cells #[.slice (some ⟨w.heap.size + 1, 0, none⟩) 1 1, .int .i64 0] 55)) := ((Below.refl _ _).alloc (by simp) _).alloc (by simp) _
  have hR1 := hR0.below hB1 (by omega)
  have hK1 : (((w.alloc (.cells (mc m lp lc dp dc) 28)).alloc (.cells #[.int .u8 5] 5)).alloc (.cells #[.slice (some ⟨w.heap.size + 1, 0, none⟩) 1 1, .int .i64 0] 55)).cell? ⟨w.heap.size, 0, none⟩ = some (.int .i64 5) := (hR1.cell.trans mc0).trans (by rw [hkd])
  have hrw : Row (((w.alloc (.cells (mc m lp lc dp dc) 28)).alloc (.cells #[.int .u8 5] 5)).alloc (.cells #[.slice (some ⟨w.heap.size + 1, 0, none⟩) 1 1, .int .i64 0] 55)) (w.heap.size + 1 + 1) 55 #[.slice (some ⟨w.heap.size + 1, 0, none⟩) 1 1, .int .i64 0] := Row.newAt _ 55 _ _ (by simp)
  have how : Own8 (((w.alloc (.cells (mc m lp lc dp dc) 28)).alloc (.cells #[.int .u8 5] 5)).alloc (.cells #[.slice (some ⟨w.heap.size + 1, 0, none⟩) 1 1, .int .i64 0] 55)) (w.heap.size + 1) 5 (.slice (some ⟨w.heap.size + 1, 0, none⟩) 1 1) [5] := by
    obtain ⟨_, sp, cap, hr, ho⟩ := RW.new (w.alloc (.cells (mc m lp lc dp dc) 28)) 5
    rw [hs0] at hr ho
    have := hr.symm.trans hrw
    injection this with this
    injection this with this
    injection this with this
    injection this with e1 e2
    injection e1 with e1 e3 e4
    subst e1; subst e4
    exact ho
  have hc90 : (((w.alloc (.cells (mc m lp lc dp dc) 28)).alloc (.cells #[.int .u8 5] 5)).alloc (.cells #[.slice (some ⟨w.heap.size + 1, 0, none⟩) 1 1, .int .i64 0] 55)).cell? ⟨w.heap.size + 1 + 1, 0, none⟩ = some (.slice (some ⟨w.heap.size + 1, 0, none⟩) 1 1) := hrw.cell
  have hc91 : (((w.alloc (.cells (mc m lp lc dp dc) 28)).alloc (.cells #[.int .u8 5] 5)).alloc (.cells #[.slice (some ⟨w.heap.size + 1, 0, none⟩) 1 1, .int .i64 0] 55)).cell? ⟨w.heap.size + 1 + 1, 1, none⟩ = some (.int .i64 0) := hrw.cell
  have hby := key_bytes hR1 hk
  have hEq : Hid (0 = rowE m [5]) := by
    show _ = _
    rfl
  obtain ⟨xs, hxs⟩ : ∃ xs : List Int, xs = (5 :: [5].flatMap (fun p => rB p m)) := ⟨_, rfl⟩
  rw [← hxs]
  have hBq : Hid ([5] ++ m.key = xs) := by
    show _ = _
    rw [hxs]
    simp [show rB 5 m = m.key from rfl]
  clear hxs
  have hz' : Hid (rowE m [5] = 0) := hz
  clear hz  
  go_enter Try.func12, Try.ntmps12
  go_wp2
  go_region_law (refine step8 (.tmp 51) (.tmp 53) 25 5 ?h1 ?h2 (w.heap.size + 1) Try.underlying25 info5 (.slice (some ⟨w.heap.size + 1, 0, none⟩) 1 1) [5] ?h3 ?ho (some ⟨w.heap.size, 5, none⟩) 32 32 m.key ?h4 ?h5 ?h6 ?hby ?hlen ?hB ?_; (case h1 => rfl); (case h2 => rfl); (case h3 => rfl); (case h4 => rfl); (case h5 => exact hk); (case h6 => exact (fun h => by cases h)); (case hby => exact hby); (case ho => exact how); (case hlen => simp); (case hB => simp); simp only [List.length_append, hk, List.length_cons, List.length_nil]; intro sp5 cap5 w5 o5 b5 k5; have hr5 := k5 _ _ _ (by decide) (hrw.drewN 1); have hR5 := k5 _ _ _ (by decide) (hR1.drewN 1); have hc50 : w5.cell? ⟨w.heap.size + 1 + 1, 0, none⟩ = some (.slice (some ⟨w.heap.size + 1, 0, none⟩) 1 1) := hr5.cell; have hc51 : w5.cell? ⟨w.heap.size + 1 + 1, 1, none⟩ = some (.int .i64 0) := hr5.cell; have hf5 := hr5.frozen (j := 0); have hK5 : w5.cell? ⟨w.heap.size, 0, none⟩ = some (.int .i64 5) := (hR5.cell.trans mc0).trans (by rw [hkd]))
  go_wp2
  go_ret2
  have e1 := hBq.out
  have e2 : xs.length = 0 + 1 + 32 := by rw [← e1]; simp [hk]
  refine ⟨sp5, cap5, by rw [e2]; rfl, ?_, hBw0.trans (((hB1.trans (((Below.refl _ _).drew).trans b5)).setCell (by show w.heap.size + 1 ≤ w.heap.size + 1 + 1; omega) _).mono (by omega))⟩
  rw [e2, ← e1]
  exact (o5.keep hr5 (by decide) 0).mono (by omega)

set_option maxRecDepth 20000 in
set_option maxHeartbeats 1000000 in
theorem renc7z (m : M) (hkd : m.kind = 7) (lp dp : Option Addr) (lc dc : Nat) (w : World) (hF : Fld w m lp lc dp dc) (_hll : m.list.length ≤ 100000) (_hdl : m.data.length ≤ 100000) (hz : rowE m [5] = 0) :
    Calls Try.prog 12 #[.agg (mc m lp lc dp dc)] w fun e w' => ∃ sp cap, e = .returned (.tuple #[.slice sp (7 :: [5].flatMap (fun p => rB p m)).length cap, .int .i64 0]) ∧ Own8 w' w.heap.size 5 (.slice sp (7 :: [5].flatMap (fun p => rB p m)).length cap) (7 :: [5].flatMap (fun p => rB p m)) ∧ Below w.heap.size w w' := by
  have hk := hF.key
  have hR0 : Row (w.alloc (.cells (mc m lp lc dp dc) 28)) w.heap.size 28 (mc m lp lc dp dc) := Row.new w 28 _
  have hs0 : (w.alloc (.cells (mc m lp lc dp dc) 28)).heap.size = w.heap.size + 1 := by simp
  have hK0 : (w.alloc (.cells (mc m lp lc dp dc) 28)).cell? ⟨w.heap.size, 0, none⟩ = some (.int .i64 7) := (hR0.cell.trans mc0).trans (by rw [hkd])
  have hBw0 : Below w.heap.size w (w.alloc (.cells (mc m lp lc dp dc) 28)) := (Below.refl _ _).alloc (Nat.le_refl _) _
  have hB1 : Below (w.heap.size + 1) (w.alloc (.cells (mc m lp lc dp dc) 28)) (((w.alloc (.cells (mc m lp lc dp dc) 28)).alloc (.cells #[.int .u8 7] 5)).alloc (.cells #[.slice (some ⟨w.heap.size + 1, 0, none⟩) 1 1, .int .i64 0] 55)) := ((Below.refl _ _).alloc (by simp) _).alloc (by simp) _
  have hR1 := hR0.below hB1 (by omega)
  have hK1 : (((w.alloc (.cells (mc m lp lc dp dc) 28)).alloc (.cells #[.int .u8 7] 5)).alloc (.cells #[.slice (some ⟨w.heap.size + 1, 0, none⟩) 1 1, .int .i64 0] 55)).cell? ⟨w.heap.size, 0, none⟩ = some (.int .i64 7) := (hR1.cell.trans mc0).trans (by rw [hkd])
  have hrw : Row (((w.alloc (.cells (mc m lp lc dp dc) 28)).alloc (.cells #[.int .u8 7] 5)).alloc (.cells #[.slice (some ⟨w.heap.size + 1, 0, none⟩) 1 1, .int .i64 0] 55)) (w.heap.size + 1 + 1) 55 #[.slice (some ⟨w.heap.size + 1, 0, none⟩) 1 1, .int .i64 0] := Row.newAt _ 55 _ _ (by simp)
  have how : Own8 (((w.alloc (.cells (mc m lp lc dp dc) 28)).alloc (.cells #[.int .u8 7] 5)).alloc (.cells #[.slice (some ⟨w.heap.size + 1, 0, none⟩) 1 1, .int .i64 0] 55)) (w.heap.size + 1) 5 (.slice (some ⟨w.heap.size + 1, 0, none⟩) 1 1) [7] := by
    obtain ⟨_, sp, cap, hr, ho⟩ := RW.new (w.alloc (.cells (mc m lp lc dp dc) 28)) 7
    rw [hs0] at hr ho
    have := hr.symm.trans hrw
    injection this with this
    injection this with this
    injection this with this
    injection this with e1 e2
    injection e1 with e1 e3 e4
    subst e1; subst e4
    exact ho
  have hc90 : (((w.alloc (.cells (mc m lp lc dp dc) 28)).alloc (.cells #[.int .u8 7] 5)).alloc (.cells #[.slice (some ⟨w.heap.size + 1, 0, none⟩) 1 1, .int .i64 0] 55)).cell? ⟨w.heap.size + 1 + 1, 0, none⟩ = some (.slice (some ⟨w.heap.size + 1, 0, none⟩) 1 1) := hrw.cell
  have hc91 : (((w.alloc (.cells (mc m lp lc dp dc) 28)).alloc (.cells #[.int .u8 7] 5)).alloc (.cells #[.slice (some ⟨w.heap.size + 1, 0, none⟩) 1 1, .int .i64 0] 55)).cell? ⟨w.heap.size + 1 + 1, 1, none⟩ = some (.int .i64 0) := hrw.cell
  have hby := key_bytes hR1 hk
  have hEq : Hid (0 = rowE m [5]) := by
    show _ = _
    rfl
  obtain ⟨xs, hxs⟩ : ∃ xs : List Int, xs = (7 :: [5].flatMap (fun p => rB p m)) := ⟨_, rfl⟩
  rw [← hxs]
  have hBq : Hid ([7] ++ m.key = xs) := by
    show _ = _
    rw [hxs]
    simp [show rB 5 m = m.key from rfl]
  clear hxs
  have hz' : Hid (rowE m [5] = 0) := hz
  clear hz  
  go_enter Try.func12, Try.ntmps12
  go_wp2
  go_region_law (refine step8 (.tmp 51) (.tmp 53) 25 5 ?h1 ?h2 (w.heap.size + 1) Try.underlying25 info5 (.slice (some ⟨w.heap.size + 1, 0, none⟩) 1 1) [7] ?h3 ?ho (some ⟨w.heap.size, 5, none⟩) 32 32 m.key ?h4 ?h5 ?h6 ?hby ?hlen ?hB ?_; (case h1 => rfl); (case h2 => rfl); (case h3 => rfl); (case h4 => rfl); (case h5 => exact hk); (case h6 => exact (fun h => by cases h)); (case hby => exact hby); (case ho => exact how); (case hlen => simp); (case hB => simp); simp only [List.length_append, hk, List.length_cons, List.length_nil]; intro sp5 cap5 w5 o5 b5 k5; have hr5 := k5 _ _ _ (by decide) (hrw.drewN 1); have hR5 := k5 _ _ _ (by decide) (hR1.drewN 1); have hc50 : w5.cell? ⟨w.heap.size + 1 + 1, 0, none⟩ = some (.slice (some ⟨w.heap.size + 1, 0, none⟩) 1 1) := hr5.cell; have hc51 : w5.cell? ⟨w.heap.size + 1 + 1, 1, none⟩ = some (.int .i64 0) := hr5.cell; have hf5 := hr5.frozen (j := 0); have hK5 : w5.cell? ⟨w.heap.size, 0, none⟩ = some (.int .i64 7) := (hR5.cell.trans mc0).trans (by rw [hkd]))
  go_wp2
  go_ret2
  have e1 := hBq.out
  have e2 : xs.length = 0 + 1 + 32 := by rw [← e1]; simp [hk]
  refine ⟨sp5, cap5, by rw [e2]; rfl, ?_, hBw0.trans (((hB1.trans (((Below.refl _ _).drew).trans b5)).setCell (by show w.heap.size + 1 ≤ w.heap.size + 1 + 1; omega) _).mono (by omega))⟩
  rw [e2, ← e1]
  exact (o5.keep hr5 (by decide) 0).mono (by omega)

set_option maxRecDepth 20000 in
set_option maxHeartbeats 1000000 in
theorem renc11z (m : M) (hkd : m.kind = 11) (lp dp : Option Addr) (lc dc : Nat) (w : World) (hF : Fld w m lp lc dp dc) (_hll : m.list.length ≤ 100000) (_hdl : m.data.length ≤ 100000) (hz : rowE m [5] = 0) :
    Calls Try.prog 12 #[.agg (mc m lp lc dp dc)] w fun e w' => ∃ sp cap, e = .returned (.tuple #[.slice sp (11 :: [5].flatMap (fun p => rB p m)).length cap, .int .i64 0]) ∧ Own8 w' w.heap.size 5 (.slice sp (11 :: [5].flatMap (fun p => rB p m)).length cap) (11 :: [5].flatMap (fun p => rB p m)) ∧ Below w.heap.size w w' := by
  have hk := hF.key
  have hR0 : Row (w.alloc (.cells (mc m lp lc dp dc) 28)) w.heap.size 28 (mc m lp lc dp dc) := Row.new w 28 _
  have hs0 : (w.alloc (.cells (mc m lp lc dp dc) 28)).heap.size = w.heap.size + 1 := by simp
  have hK0 : (w.alloc (.cells (mc m lp lc dp dc) 28)).cell? ⟨w.heap.size, 0, none⟩ = some (.int .i64 11) := (hR0.cell.trans mc0).trans (by rw [hkd])
  have hBw0 : Below w.heap.size w (w.alloc (.cells (mc m lp lc dp dc) 28)) := (Below.refl _ _).alloc (Nat.le_refl _) _
  have hB1 : Below (w.heap.size + 1) (w.alloc (.cells (mc m lp lc dp dc) 28)) (((w.alloc (.cells (mc m lp lc dp dc) 28)).alloc (.cells #[.int .u8 11] 5)).alloc (.cells #[.slice (some ⟨w.heap.size + 1, 0, none⟩) 1 1, .int .i64 0] 55)) := ((Below.refl _ _).alloc (by simp) _).alloc (by simp) _
  have hR1 := hR0.below hB1 (by omega)
  have hK1 : (((w.alloc (.cells (mc m lp lc dp dc) 28)).alloc (.cells #[.int .u8 11] 5)).alloc (.cells #[.slice (some ⟨w.heap.size + 1, 0, none⟩) 1 1, .int .i64 0] 55)).cell? ⟨w.heap.size, 0, none⟩ = some (.int .i64 11) := (hR1.cell.trans mc0).trans (by rw [hkd])
  have hrw : Row (((w.alloc (.cells (mc m lp lc dp dc) 28)).alloc (.cells #[.int .u8 11] 5)).alloc (.cells #[.slice (some ⟨w.heap.size + 1, 0, none⟩) 1 1, .int .i64 0] 55)) (w.heap.size + 1 + 1) 55 #[.slice (some ⟨w.heap.size + 1, 0, none⟩) 1 1, .int .i64 0] := Row.newAt _ 55 _ _ (by simp)
  have how : Own8 (((w.alloc (.cells (mc m lp lc dp dc) 28)).alloc (.cells #[.int .u8 11] 5)).alloc (.cells #[.slice (some ⟨w.heap.size + 1, 0, none⟩) 1 1, .int .i64 0] 55)) (w.heap.size + 1) 5 (.slice (some ⟨w.heap.size + 1, 0, none⟩) 1 1) [11] := by
    obtain ⟨_, sp, cap, hr, ho⟩ := RW.new (w.alloc (.cells (mc m lp lc dp dc) 28)) 11
    rw [hs0] at hr ho
    have := hr.symm.trans hrw
    injection this with this
    injection this with this
    injection this with this
    injection this with e1 e2
    injection e1 with e1 e3 e4
    subst e1; subst e4
    exact ho
  have hc90 : (((w.alloc (.cells (mc m lp lc dp dc) 28)).alloc (.cells #[.int .u8 11] 5)).alloc (.cells #[.slice (some ⟨w.heap.size + 1, 0, none⟩) 1 1, .int .i64 0] 55)).cell? ⟨w.heap.size + 1 + 1, 0, none⟩ = some (.slice (some ⟨w.heap.size + 1, 0, none⟩) 1 1) := hrw.cell
  have hc91 : (((w.alloc (.cells (mc m lp lc dp dc) 28)).alloc (.cells #[.int .u8 11] 5)).alloc (.cells #[.slice (some ⟨w.heap.size + 1, 0, none⟩) 1 1, .int .i64 0] 55)).cell? ⟨w.heap.size + 1 + 1, 1, none⟩ = some (.int .i64 0) := hrw.cell
  have hby := key_bytes hR1 hk
  have hEq : Hid (0 = rowE m [5]) := by
    show _ = _
    rfl
  obtain ⟨xs, hxs⟩ : ∃ xs : List Int, xs = (11 :: [5].flatMap (fun p => rB p m)) := ⟨_, rfl⟩
  rw [← hxs]
  have hBq : Hid ([11] ++ m.key = xs) := by
    show _ = _
    rw [hxs]
    simp [show rB 5 m = m.key from rfl]
  clear hxs
  have hz' : Hid (rowE m [5] = 0) := hz
  clear hz  
  go_enter Try.func12, Try.ntmps12
  go_wp2
  go_region_law (refine step8 (.tmp 51) (.tmp 53) 25 5 ?h1 ?h2 (w.heap.size + 1) Try.underlying25 info5 (.slice (some ⟨w.heap.size + 1, 0, none⟩) 1 1) [11] ?h3 ?ho (some ⟨w.heap.size, 5, none⟩) 32 32 m.key ?h4 ?h5 ?h6 ?hby ?hlen ?hB ?_; (case h1 => rfl); (case h2 => rfl); (case h3 => rfl); (case h4 => rfl); (case h5 => exact hk); (case h6 => exact (fun h => by cases h)); (case hby => exact hby); (case ho => exact how); (case hlen => simp); (case hB => simp); simp only [List.length_append, hk, List.length_cons, List.length_nil]; intro sp5 cap5 w5 o5 b5 k5; have hr5 := k5 _ _ _ (by decide) (hrw.drewN 1); have hR5 := k5 _ _ _ (by decide) (hR1.drewN 1); have hc50 : w5.cell? ⟨w.heap.size + 1 + 1, 0, none⟩ = some (.slice (some ⟨w.heap.size + 1, 0, none⟩) 1 1) := hr5.cell; have hc51 : w5.cell? ⟨w.heap.size + 1 + 1, 1, none⟩ = some (.int .i64 0) := hr5.cell; have hf5 := hr5.frozen (j := 0); have hK5 : w5.cell? ⟨w.heap.size, 0, none⟩ = some (.int .i64 11) := (hR5.cell.trans mc0).trans (by rw [hkd]))
  go_wp2
  go_ret2
  have e1 := hBq.out
  have e2 : xs.length = 0 + 1 + 32 := by rw [← e1]; simp [hk]
  refine ⟨sp5, cap5, by rw [e2]; rfl, ?_, hBw0.trans (((hB1.trans (((Below.refl _ _).drew).trans b5)).setCell (by show w.heap.size + 1 ≤ w.heap.size + 1 + 1; omega) _).mono (by omega))⟩
  rw [e2, ← e1]
  exact (o5.keep hr5 (by decide) 0).mono (by omega)
end

section
open Go.RowKit

theorem bytes_newAtRenc6 (w : World) (t : TypeId) (cs : List Int) (b : Nat) (hb : b = w.heap.size) : Bytes (w.alloc (.cells (v8 cs) t)) (some ⟨b, 0, none⟩) cs := by subst hb; exact bytes_new w t cs

set_option maxRecDepth 20000 in
set_option maxHeartbeats 1000000 in
theorem renc6tz (m : M) (hkd : m.kind = 6) (hdn : m.done = true) (lp dp : Option Addr) (lc dc : Nat) (w : World) (hF : Fld w m lp lc dp dc) (hll : m.list.length ≤ 100000) (hdl : m.data.length ≤ 100000) (hz : rowE m [3, 2] = 0) :
    Calls Try.prog 12 #[.agg (mc m lp lc dp dc)] w fun e w' => ∃ sp cap, e = .returned (.tuple #[.slice sp (6 :: [3, 2].flatMap (fun p => rB p m)).length cap, .int .i64 0]) ∧ Own8 w' w.heap.size 5 (.slice sp (6 :: [3, 2].flatMap (fun p => rB p m)).length cap) (6 :: [3, 2].flatMap (fun p => rB p m)) ∧ Below w.heap.size w w' := by
  have hk := hF.key
  have hR0 : Row (w.alloc (.cells (mc m lp lc dp dc) 28)) w.heap.size 28 (mc m lp lc dp dc) := Row.new w 28 _
  have hs0 : (w.alloc (.cells (mc m lp lc dp dc) 28)).heap.size = w.heap.size + 1 := by simp
  have hK0 : (w.alloc (.cells (mc m lp lc dp dc) 28)).cell? ⟨w.heap.size, 0, none⟩ = some (.int .i64 6) := (hR0.cell.trans mc0).trans (by rw [hkd])
  have hBw0 : Below w.heap.size w (w.alloc (.cells (mc m lp lc dp dc) 28)) := (Below.refl _ _).alloc (Nat.le_refl _) _
  have hB1 : Below (w.heap.size + 1) (w.alloc (.cells (mc m lp lc dp dc) 28)) (((w.alloc (.cells (mc m lp lc dp dc) 28)).alloc (.cells #[.int .u8 6] 5)).alloc (.cells #[.slice (some ⟨w.heap.size + 1, 0, none⟩) 1 1, .int .i64 0] 55)) := ((Below.refl _ _).alloc (by simp) _).alloc (by simp) _
  have hR1 := hR0.below hB1 (by omega)
  have hK1 : (((w.alloc (.cells (mc m lp lc dp dc) 28)).alloc (.cells #[.int .u8 6] 5)).alloc (.cells #[.slice (some ⟨w.heap.size + 1, 0, none⟩) 1 1, .int .i64 0] 55)).cell? ⟨w.heap.size, 0, none⟩ = some (.int .i64 6) := (hR1.cell.trans mc0).trans (by rw [hkd])
  have hrw : Row (((w.alloc (.cells (mc m lp lc dp dc) 28)).alloc (.cells #[.int .u8 6] 5)).alloc (.cells #[.slice (some ⟨w.heap.size + 1, 0, none⟩) 1 1, .int .i64 0] 55)) (w.heap.size + 1 + 1) 55 #[.slice (some ⟨w.heap.size + 1, 0, none⟩) 1 1, .int .i64 0] := Row.newAt _ 55 _ _ (by simp)
  have how : Own8 (((w.alloc (.cells (mc m lp lc dp dc) 28)).alloc (.cells #[.int .u8 6] 5)).alloc (.cells #[.slice (some ⟨w.heap.size + 1, 0, none⟩) 1 1, .int .i64 0] 55)) (w.heap.size + 1) 5 (.slice (some ⟨w.heap.size + 1, 0, none⟩) 1 1) [6] := by
    obtain ⟨_, sp, cap, hr, ho⟩ := RW.new (w.alloc (.cells (mc m lp lc dp dc) 28)) 6
    rw [hs0] at hr ho
    have := hr.symm.trans hrw
    injection this with this
    injection this with this
    injection this with this
    injection this with e1 e2
    injection e1 with e1 e3 e4
    subst e1; subst e4
    exact ho
  have hc90 : (((w.alloc (.cells (mc m lp lc dp dc) 28)).alloc (.cells #[.int .u8 6] 5)).alloc (.cells #[.slice (some ⟨w.heap.size + 1, 0, none⟩) 1 1, .int .i64 0] 55)).cell? ⟨w.heap.size + 1 + 1, 0, none⟩ = some (.slice (some ⟨w.heap.size + 1, 0, none⟩) 1 1) := hrw.cell
  have hc91 : (((w.alloc (.cells (mc m lp lc dp dc) 28)).alloc (.cells #[.int .u8 6] 5)).alloc (.cells #[.slice (some ⟨w.heap.size + 1, 0, none⟩) 1 1, .int .i64 0] 55)).cell? ⟨w.heap.size + 1 + 1, 1, none⟩ = some (.int .i64 0) := hrw.cell
  have hcd : (((w.alloc (.cells (mc m lp lc dp dc) 28)).alloc (.cells #[.int .u8 6] 5)).alloc (.cells #[.slice (some ⟨w.heap.size + 1, 0, none⟩) 1 1, .int .i64 0] 55)).cell? ⟨w.heap.size, 4, none⟩ = some (.bool true) := (hR1.cell.trans mc4).trans (by rw [hdn])
  have hx2 : ∀ W E bs g, Below (w.heap.size + 1) (w.alloc (.cells (mc m lp lc dp dc) 28)) W → RW W (w.heap.size + 1) g E bs → bs.length ≤ 10000000 → Calls Try.prog 22 #[.pointer (some ⟨g, 0, none⟩), .slice lp m.list.length lc] W fun e w' => e = .returned (.tuple #[]) ∧ Below (w.heap.size + 1) (w.alloc (.cells (mc m lp lc dp dc) 28)) w' ∧ RW w' (w.heap.size + 1) g (fst2 E (partE 2 m)) (bs ++ rB 2 m) := fun W E bs g h1 h2 h3 => by
    have := e_list m (w.alloc (.cells (mc m lp lc dp dc) 28)) W g E bs (by rw [hs0]; exact h1) (by rw [hs0]; exact h2) h3 lp lc (hF.below hBw0).ints hll
    rwa [hs0] at this
  have hl2 := rB_len 2 m hk hll hdl
  have hL1 : ([6] ++ [1] : List Int).length ≤ 10000000 := by simp only [List.length_append, List.length_cons, List.length_nil]; omega
  have hEq : Hid (fst2 (0) (partE 2 m) = rowE m [3, 2]) := by
    show _ = _
    simp only [rowE_cons, show rowE m [] = 0 from rfl, fst2_zero]
    rfl
  obtain ⟨xs, hxs⟩ : ∃ xs : List Int, xs = (6 :: [3, 2].flatMap (fun p => rB p m)) := ⟨_, rfl⟩
  rw [← hxs]
  have hBq : Hid ([6] ++ [1] ++ rB 2 m = xs) := by
    show _ = _
    rw [hxs]
    simp [show rB 3 m = [1] by simp [rB, hdn]]
  clear hxs
  have hz' : Hid (rowE m [3, 2] = 0) := hz
  clear hz hs0 hl2
  go_enter Try.func12, Try.ntmps12
  go_wp2_with first | (at_builtin; (refine append8k (.tmp 65) (.tmp 66) 25 5 (by rfl) (by rfl) (w.heap.size + 1) Try.underlying25 info5 (.slice (some ⟨w.heap.size + 1, 0, none⟩) 1 1) [6] (by rfl) ?ho (some ⟨w.heap.size + 1 + 1 + 1, 0, none⟩) 1 1 [1] (by rfl) rfl ?hnil ?hby ?hlen ?hB ?_; (case ho => exact (how.alloc _)); (case hnil => exact (fun h => by cases h)); (case hby => exact (bytes_newAtRenc6 (((w.alloc (.cells (mc m lp lc dp dc) 28)).alloc (.cells #[.int .u8 6] 5)).alloc (.cells #[.slice (some ⟨w.heap.size + 1, 0, none⟩) 1 1, .int .i64 0] 55)) 5 [1] _ (by simp))); (case hlen => simp); (case hB => simp); simp only [List.length_append, List.length_cons, List.length_nil, Nat.zero_add]; intro sp5 cap5 w5 o5 b5 k5; have hr5 := k5 _ _ _ (by decide) (hrw.alloc _); have hR5 := k5 _ _ _ (by decide) (hR1.alloc _); have hc50 : w5.cell? ⟨w.heap.size + 1 + 1, 0, none⟩ = some (.slice (some ⟨w.heap.size + 1, 0, none⟩) 1 1) := hr5.cell; have hc51 : w5.cell? ⟨w.heap.size + 1 + 1, 1, none⟩ = some (.int .i64 0) := hr5.cell; have hf5 := hr5.frozen (j := 0); have hK5 : w5.cell? ⟨w.heap.size, 0, none⟩ = some (.int .i64 6) := (hR5.cell.trans mc0).trans (by rw [hkd]); have hB2 : Below (w.heap.size + 1) (w.alloc (.cells (mc m lp lc dp dc) 28)) (w5.setCell ⟨w.heap.size + 1 + 1, 0, none⟩ (.slice sp5 (1 + 1) cap5)) := ((hB1.alloc (by simp) _).trans b5).setCell (by show w.heap.size + 1 ≤ w.heap.size + 1 + 1; omega) _; have hW2 := RW.stored (by show w.heap.size + 1 ≤ w.heap.size + 1 + 1; omega) hr5 (by simp) o5; have hc52 := (hR5.cell (j := 3)).trans mc3)) | (go_at_call 22; (with_reducible refine Calls.mono (hx2 _ _ _ _ hB2 hW2 hL1) ?_); rintro e w3 ⟨rfl, hB3, hW3⟩; have hR3 := hR0.below hB3 (Nat.lt_succ_self _); have hK3 : w3.cell? ⟨w.heap.size, 0, none⟩ = some (.int .i64 6) := (hR3.cell.trans mc0).trans (by rw [hkd]); obtain ⟨hg9, sp9, cap9, hr9, ho9⟩ := hW3.cast (hEq.out.trans hz'.out) hBq.out; have hc92 : w3.cell? ⟨w.heap.size + 1 + 1, 0, none⟩ = some (.slice sp9 xs.length cap9) := hr9.cell; have hc93 : w3.cell? ⟨w.heap.size + 1 + 1, 1, none⟩ = some (.int .i64 0) := hr9.cell; have hB9 := hB3)
  go_ret2
  exact ⟨sp9, cap9, rfl, ho9.mono (by omega), hBw0.trans (hB9.mono (by omega))⟩

set_option maxRecDepth 20000 in
set_option maxHeartbeats 1000000 in
theorem renc6te (m : M) (hkd : m.kind = 6) (hdn : m.done = true) (lp dp : Option Addr) (lc dc : Nat) (w : World) (hF : Fld w m lp lc dp dc) (hll : m.list.length ≤ 100000) (hdl : m.data.length ≤ 100000) (F : Int) (hne : F ≠ 0) (hz : rowE m [3, 2] = F) :
    Calls Try.prog 12 #[.agg (mc m lp lc dp dc)] w fun e w' => e = .returned (.tuple #[.slice none 0 0, .int .i64 F]) ∧ Below w.heap.size w w' := by
  have hk := hF.key
  have hR0 : Row (w.alloc (.cells (mc m lp lc dp dc) 28)) w.heap.size 28 (mc m lp lc dp dc) := Row.new w 28 _
  have hs0 : (w.alloc (.cells (mc m lp lc dp dc) 28)).heap.size = w.heap.size + 1 := by simp
  have hK0 : (w.alloc (.cells (mc m lp lc dp dc) 28)).cell? ⟨w.heap.size, 0, none⟩ = some (.int .i64 6) := (hR0.cell.trans mc0).trans (by rw [hkd])
  have hBw0 : Below w.heap.size w (w.alloc (.cells (mc m lp lc dp dc) 28)) := (Below.refl _ _).alloc (Nat.le_refl _) _
  have hB1 : Below (w.heap.size + 1) (w.alloc (.cells (mc m lp lc dp dc) 28)) (((w.alloc (.cells (mc m lp lc dp dc) 28)).alloc (.cells #[.int .u8 6] 5)).alloc (.cells #[.slice (some ⟨w.heap.size + 1, 0, none⟩) 1 1, .int .i64 0] 55)) := ((Below.refl _ _).alloc (by simp) _).alloc (by simp) _
  have hR1 := hR0.below hB1 (by omega)
  have hK1 : (((w.alloc (.cells (mc m lp lc dp dc) 28)).alloc (.cells #[.int .u8 6] 5)).alloc (.cells #[.slice (some ⟨w.heap.size + 1, 0, none⟩) 1 1, .int .i64 0] 55)).cell? ⟨w.heap.size, 0, none⟩ = some (.int .i64 6) := (hR1.cell.trans mc0).trans (by rw [hkd])
  have hrw : Row (((w.alloc (.cells (mc m lp lc dp dc) 28)).alloc (.cells #[.int .u8 6] 5)).alloc (.cells #[.slice (some ⟨w.heap.size + 1, 0, none⟩) 1 1, .int .i64 0] 55)) (w.heap.size + 1 + 1) 55 #[.slice (some ⟨w.heap.size + 1, 0, none⟩) 1 1, .int .i64 0] := Row.newAt _ 55 _ _ (by simp)
  have how : Own8 (((w.alloc (.cells (mc m lp lc dp dc) 28)).alloc (.cells #[.int .u8 6] 5)).alloc (.cells #[.slice (some ⟨w.heap.size + 1, 0, none⟩) 1 1, .int .i64 0] 55)) (w.heap.size + 1) 5 (.slice (some ⟨w.heap.size + 1, 0, none⟩) 1 1) [6] := by
    obtain ⟨_, sp, cap, hr, ho⟩ := RW.new (w.alloc (.cells (mc m lp lc dp dc) 28)) 6
    rw [hs0] at hr ho
    have := hr.symm.trans hrw
    injection this with this
    injection this with this
    injection this with this
    injection this with e1 e2
    injection e1 with e1 e3 e4
    subst e1; subst e4
    exact ho
  have hc90 : (((w.alloc (.cells (mc m lp lc dp dc) 28)).alloc (.cells #[.int .u8 6] 5)).alloc (.cells #[.slice (some ⟨w.heap.size + 1, 0, none⟩) 1 1, .int .i64 0] 55)).cell? ⟨w.heap.size + 1 + 1, 0, none⟩ = some (.slice (some ⟨w.heap.size + 1, 0, none⟩) 1 1) := hrw.cell
  have hc91 : (((w.alloc (.cells (mc m lp lc dp dc) 28)).alloc (.cells #[.int .u8 6] 5)).alloc (.cells #[.slice (some ⟨w.heap.size + 1, 0, none⟩) 1 1, .int .i64 0] 55)).cell? ⟨w.heap.size + 1 + 1, 1, none⟩ = some (.int .i64 0) := hrw.cell
  have hcd : (((w.alloc (.cells (mc m lp lc dp dc) 28)).alloc (.cells #[.int .u8 6] 5)).alloc (.cells #[.slice (some ⟨w.heap.size + 1, 0, none⟩) 1 1, .int .i64 0] 55)).cell? ⟨w.heap.size, 4, none⟩ = some (.bool true) := (hR1.cell.trans mc4).trans (by rw [hdn])
  have hx2 : ∀ W E bs g, Below (w.heap.size + 1) (w.alloc (.cells (mc m lp lc dp dc) 28)) W → RW W (w.heap.size + 1) g E bs → bs.length ≤ 10000000 → Calls Try.prog 22 #[.pointer (some ⟨g, 0, none⟩), .slice lp m.list.length lc] W fun e w' => e = .returned (.tuple #[]) ∧ Below (w.heap.size + 1) (w.alloc (.cells (mc m lp lc dp dc) 28)) w' ∧ RW w' (w.heap.size + 1) g (fst2 E (partE 2 m)) (bs ++ rB 2 m) := fun W E bs g h1 h2 h3 => by
    have := e_list m (w.alloc (.cells (mc m lp lc dp dc) 28)) W g E bs (by rw [hs0]; exact h1) (by rw [hs0]; exact h2) h3 lp lc (hF.below hBw0).ints hll
    rwa [hs0] at this
  have hl2 := rB_len 2 m hk hll hdl
  have hL1 : ([6] ++ [1] : List Int).length ≤ 10000000 := by simp only [List.length_append, List.length_cons, List.length_nil]; omega
  have hEq : Hid (fst2 (0) (partE 2 m) = rowE m [3, 2]) := by
    show _ = _
    simp only [rowE_cons, show rowE m [] = 0 from rfl, fst2_zero]
    rfl
  obtain ⟨xs, hxs⟩ : ∃ xs : List Int, xs = (6 :: [3, 2].flatMap (fun p => rB p m)) := ⟨_, rfl⟩
  have hBq : Hid ([6] ++ [1] ++ rB 2 m = xs) := by
    show _ = _
    rw [hxs]
    simp [show rB 3 m = [1] by simp [rB, hdn]]
  clear hxs
  have hz' : Hid (rowE m [3, 2] = F) := hz
  clear hz hs0 hl2
  have hd : (F == 0) = false := by simpa using hne
  go_enter Try.func12, Try.ntmps12
  go_wp2_with first | (at_builtin; (refine append8k (.tmp 65) (.tmp 66) 25 5 (by rfl) (by rfl) (w.heap.size + 1) Try.underlying25 info5 (.slice (some ⟨w.heap.size + 1, 0, none⟩) 1 1) [6] (by rfl) ?ho (some ⟨w.heap.size + 1 + 1 + 1, 0, none⟩) 1 1 [1] (by rfl) rfl ?hnil ?hby ?hlen ?hB ?_; (case ho => exact (how.alloc _)); (case hnil => exact (fun h => by cases h)); (case hby => exact (bytes_newAtRenc6 (((w.alloc (.cells (mc m lp lc dp dc) 28)).alloc (.cells #[.int .u8 6] 5)).alloc (.cells #[.slice (some ⟨w.heap.size + 1, 0, none⟩) 1 1, .int .i64 0] 55)) 5 [1] _ (by simp))); (case hlen => simp); (case hB => simp); simp only [List.length_append, List.length_cons, List.length_nil, Nat.zero_add]; intro sp5 cap5 w5 o5 b5 k5; have hr5 := k5 _ _ _ (by decide) (hrw.alloc _); have hR5 := k5 _ _ _ (by decide) (hR1.alloc _); have hc50 : w5.cell? ⟨w.heap.size + 1 + 1, 0, none⟩ = some (.slice (some ⟨w.heap.size + 1, 0, none⟩) 1 1) := hr5.cell; have hc51 : w5.cell? ⟨w.heap.size + 1 + 1, 1, none⟩ = some (.int .i64 0) := hr5.cell; have hf5 := hr5.frozen (j := 0); have hK5 : w5.cell? ⟨w.heap.size, 0, none⟩ = some (.int .i64 6) := (hR5.cell.trans mc0).trans (by rw [hkd]); have hB2 : Below (w.heap.size + 1) (w.alloc (.cells (mc m lp lc dp dc) 28)) (w5.setCell ⟨w.heap.size + 1 + 1, 0, none⟩ (.slice sp5 (1 + 1) cap5)) := ((hB1.alloc (by simp) _).trans b5).setCell (by show w.heap.size + 1 ≤ w.heap.size + 1 + 1; omega) _; have hW2 := RW.stored (by show w.heap.size + 1 ≤ w.heap.size + 1 + 1; omega) hr5 (by simp) o5; have hc52 := (hR5.cell (j := 3)).trans mc3)) | (go_at_call 22; (with_reducible refine Calls.mono (hx2 _ _ _ _ hB2 hW2 hL1) ?_); rintro e w3 ⟨rfl, hB3, hW3⟩; have hR3 := hR0.below hB3 (Nat.lt_succ_self _); have hK3 : w3.cell? ⟨w.heap.size, 0, none⟩ = some (.int .i64 6) := (hR3.cell.trans mc0).trans (by rw [hkd]); obtain ⟨hg9, sp9, cap9, hr9, ho9⟩ := hW3.cast (hEq.out.trans hz'.out) hBq.out; have hc92 : w3.cell? ⟨w.heap.size + 1 + 1, 0, none⟩ = some (.slice sp9 xs.length cap9) := hr9.cell; have hc93 : w3.cell? ⟨w.heap.size + 1 + 1, 1, none⟩ = some (.int .i64 F) := hr9.cell; have hB9 := hB3)
  go_region
  go_wp2
  go_ret2
  have h9 := hBw0.trans (hB9.mono (show w.heap.size ≤ w.heap.size + 1 by omega))
  exact ⟨rfl, ⟨h9.os, h9.tape, h9.output, h9.size, h9.block⟩⟩

set_option maxRecDepth 20000 in
set_option maxHeartbeats 1000000 in
theorem renc6fz (m : M) (hkd : m.kind = 6) (hdn : m.done = false) (lp dp : Option Addr) (lc dc : Nat) (w : World) (hF : Fld w m lp lc dp dc) (hll : m.list.length ≤ 100000) (hdl : m.data.length ≤ 100000) (hz : rowE m [3, 2] = 0) :
    Calls Try.prog 12 #[.agg (mc m lp lc dp dc)] w fun e w' => ∃ sp cap, e = .returned (.tuple #[.slice sp (6 :: [3, 2].flatMap (fun p => rB p m)).length cap, .int .i64 0]) ∧ Own8 w' w.heap.size 5 (.slice sp (6 :: [3, 2].flatMap (fun p => rB p m)).length cap) (6 :: [3, 2].flatMap (fun p => rB p m)) ∧ Below w.heap.size w w' := by
  have hk := hF.key
  have hR0 : Row (w.alloc (.cells (mc m lp lc dp dc) 28)) w.heap.size 28 (mc m lp lc dp dc) := Row.new w 28 _
  have hs0 : (w.alloc (.cells (mc m lp lc dp dc) 28)).heap.size = w.heap.size + 1 := by simp
  have hK0 : (w.alloc (.cells (mc m lp lc dp dc) 28)).cell? ⟨w.heap.size, 0, none⟩ = some (.int .i64 6) := (hR0.cell.trans mc0).trans (by rw [hkd])
  have hBw0 : Below w.heap.size w (w.alloc (.cells (mc m lp lc dp dc) 28)) := (Below.refl _ _).alloc (Nat.le_refl _) _
  have hB1 : Below (w.heap.size + 1) (w.alloc (.cells (mc m lp lc dp dc) 28)) (((w.alloc (.cells (mc m lp lc dp dc) 28)).alloc (.cells #[.int .u8 6] 5)).alloc (.cells #[.slice (some ⟨w.heap.size + 1, 0, none⟩) 1 1, .int .i64 0] 55)) := ((Below.refl _ _).alloc (by simp) _).alloc (by simp) _
  have hR1 := hR0.below hB1 (by omega)
  have hK1 : (((w.alloc (.cells (mc m lp lc dp dc) 28)).alloc (.cells #[.int .u8 6] 5)).alloc (.cells #[.slice (some ⟨w.heap.size + 1, 0, none⟩) 1 1, .int .i64 0] 55)).cell? ⟨w.heap.size, 0, none⟩ = some (.int .i64 6) := (hR1.cell.trans mc0).trans (by rw [hkd])
  have hrw : Row (((w.alloc (.cells (mc m lp lc dp dc) 28)).alloc (.cells #[.int .u8 6] 5)).alloc (.cells #[.slice (some ⟨w.heap.size + 1, 0, none⟩) 1 1, .int .i64 0] 55)) (w.heap.size + 1 + 1) 55 #[.slice (some ⟨w.heap.size + 1, 0, none⟩) 1 1, .int .i64 0] := Row.newAt _ 55 _ _ (by simp)
  have how : Own8 (((w.alloc (.cells (mc m lp lc dp dc) 28)).alloc (.cells #[.int .u8 6] 5)).alloc (.cells #[.slice (some ⟨w.heap.size + 1, 0, none⟩) 1 1, .int .i64 0] 55)) (w.heap.size + 1) 5 (.slice (some ⟨w.heap.size + 1, 0, none⟩) 1 1) [6] := by
    obtain ⟨_, sp, cap, hr, ho⟩ := RW.new (w.alloc (.cells (mc m lp lc dp dc) 28)) 6
    rw [hs0] at hr ho
    have := hr.symm.trans hrw
    injection this with this
    injection this with this
    injection this with this
    injection this with e1 e2
    injection e1 with e1 e3 e4
    subst e1; subst e4
    exact ho
  have hc90 : (((w.alloc (.cells (mc m lp lc dp dc) 28)).alloc (.cells #[.int .u8 6] 5)).alloc (.cells #[.slice (some ⟨w.heap.size + 1, 0, none⟩) 1 1, .int .i64 0] 55)).cell? ⟨w.heap.size + 1 + 1, 0, none⟩ = some (.slice (some ⟨w.heap.size + 1, 0, none⟩) 1 1) := hrw.cell
  have hc91 : (((w.alloc (.cells (mc m lp lc dp dc) 28)).alloc (.cells #[.int .u8 6] 5)).alloc (.cells #[.slice (some ⟨w.heap.size + 1, 0, none⟩) 1 1, .int .i64 0] 55)).cell? ⟨w.heap.size + 1 + 1, 1, none⟩ = some (.int .i64 0) := hrw.cell
  have hcd : (((w.alloc (.cells (mc m lp lc dp dc) 28)).alloc (.cells #[.int .u8 6] 5)).alloc (.cells #[.slice (some ⟨w.heap.size + 1, 0, none⟩) 1 1, .int .i64 0] 55)).cell? ⟨w.heap.size, 4, none⟩ = some (.bool false) := (hR1.cell.trans mc4).trans (by rw [hdn])
  have hx2 : ∀ W E bs g, Below (w.heap.size + 1) (w.alloc (.cells (mc m lp lc dp dc) 28)) W → RW W (w.heap.size + 1) g E bs → bs.length ≤ 10000000 → Calls Try.prog 22 #[.pointer (some ⟨g, 0, none⟩), .slice lp m.list.length lc] W fun e w' => e = .returned (.tuple #[]) ∧ Below (w.heap.size + 1) (w.alloc (.cells (mc m lp lc dp dc) 28)) w' ∧ RW w' (w.heap.size + 1) g (fst2 E (partE 2 m)) (bs ++ rB 2 m) := fun W E bs g h1 h2 h3 => by
    have := e_list m (w.alloc (.cells (mc m lp lc dp dc) 28)) W g E bs (by rw [hs0]; exact h1) (by rw [hs0]; exact h2) h3 lp lc (hF.below hBw0).ints hll
    rwa [hs0] at this
  have hl2 := rB_len 2 m hk hll hdl
  have hL1 : ([6] ++ [0] : List Int).length ≤ 10000000 := by simp only [List.length_append, List.length_cons, List.length_nil]; omega
  have hEq : Hid (fst2 (0) (partE 2 m) = rowE m [3, 2]) := by
    show _ = _
    simp only [rowE_cons, show rowE m [] = 0 from rfl, fst2_zero]
    rfl
  obtain ⟨xs, hxs⟩ : ∃ xs : List Int, xs = (6 :: [3, 2].flatMap (fun p => rB p m)) := ⟨_, rfl⟩
  rw [← hxs]
  have hBq : Hid ([6] ++ [0] ++ rB 2 m = xs) := by
    show _ = _
    rw [hxs]
    simp [show rB 3 m = [0] by simp [rB, hdn]]
  clear hxs
  have hz' : Hid (rowE m [3, 2] = 0) := hz
  clear hz hs0 hl2
  go_enter Try.func12, Try.ntmps12
  go_wp2_with first | (at_builtin; (refine append8k (.tmp 74) (.tmp 75) 25 5 (by rfl) (by rfl) (w.heap.size + 1) Try.underlying25 info5 (.slice (some ⟨w.heap.size + 1, 0, none⟩) 1 1) [6] (by rfl) ?ho (some ⟨w.heap.size + 1 + 1 + 1, 0, none⟩) 1 1 [0] (by rfl) rfl ?hnil ?hby ?hlen ?hB ?_; (case ho => exact (how.alloc _)); (case hnil => exact (fun h => by cases h)); (case hby => exact (bytes_newAtRenc6 (((w.alloc (.cells (mc m lp lc dp dc) 28)).alloc (.cells #[.int .u8 6] 5)).alloc (.cells #[.slice (some ⟨w.heap.size + 1, 0, none⟩) 1 1, .int .i64 0] 55)) 5 [0] _ (by simp))); (case hlen => simp); (case hB => simp); simp only [List.length_append, List.length_cons, List.length_nil, Nat.zero_add]; intro sp5 cap5 w5 o5 b5 k5; have hr5 := k5 _ _ _ (by decide) (hrw.alloc _); have hR5 := k5 _ _ _ (by decide) (hR1.alloc _); have hc50 : w5.cell? ⟨w.heap.size + 1 + 1, 0, none⟩ = some (.slice (some ⟨w.heap.size + 1, 0, none⟩) 1 1) := hr5.cell; have hc51 : w5.cell? ⟨w.heap.size + 1 + 1, 1, none⟩ = some (.int .i64 0) := hr5.cell; have hf5 := hr5.frozen (j := 0); have hK5 : w5.cell? ⟨w.heap.size, 0, none⟩ = some (.int .i64 6) := (hR5.cell.trans mc0).trans (by rw [hkd]); have hB2 : Below (w.heap.size + 1) (w.alloc (.cells (mc m lp lc dp dc) 28)) (w5.setCell ⟨w.heap.size + 1 + 1, 0, none⟩ (.slice sp5 (1 + 1) cap5)) := ((hB1.alloc (by simp) _).trans b5).setCell (by show w.heap.size + 1 ≤ w.heap.size + 1 + 1; omega) _; have hW2 := RW.stored (by show w.heap.size + 1 ≤ w.heap.size + 1 + 1; omega) hr5 (by simp) o5; have hc52 := (hR5.cell (j := 3)).trans mc3)) | (go_at_call 22; (with_reducible refine Calls.mono (hx2 _ _ _ _ hB2 hW2 hL1) ?_); rintro e w3 ⟨rfl, hB3, hW3⟩; have hR3 := hR0.below hB3 (Nat.lt_succ_self _); have hK3 : w3.cell? ⟨w.heap.size, 0, none⟩ = some (.int .i64 6) := (hR3.cell.trans mc0).trans (by rw [hkd]); obtain ⟨hg9, sp9, cap9, hr9, ho9⟩ := hW3.cast (hEq.out.trans hz'.out) hBq.out; have hc92 : w3.cell? ⟨w.heap.size + 1 + 1, 0, none⟩ = some (.slice sp9 xs.length cap9) := hr9.cell; have hc93 : w3.cell? ⟨w.heap.size + 1 + 1, 1, none⟩ = some (.int .i64 0) := hr9.cell; have hB9 := hB3)
  go_ret2
  exact ⟨sp9, cap9, rfl, ho9.mono (by omega), hBw0.trans (hB9.mono (by omega))⟩

set_option maxRecDepth 20000 in
set_option maxHeartbeats 1000000 in
theorem renc6fe (m : M) (hkd : m.kind = 6) (hdn : m.done = false) (lp dp : Option Addr) (lc dc : Nat) (w : World) (hF : Fld w m lp lc dp dc) (hll : m.list.length ≤ 100000) (hdl : m.data.length ≤ 100000) (F : Int) (hne : F ≠ 0) (hz : rowE m [3, 2] = F) :
    Calls Try.prog 12 #[.agg (mc m lp lc dp dc)] w fun e w' => e = .returned (.tuple #[.slice none 0 0, .int .i64 F]) ∧ Below w.heap.size w w' := by
  have hk := hF.key
  have hR0 : Row (w.alloc (.cells (mc m lp lc dp dc) 28)) w.heap.size 28 (mc m lp lc dp dc) := Row.new w 28 _
  have hs0 : (w.alloc (.cells (mc m lp lc dp dc) 28)).heap.size = w.heap.size + 1 := by simp
  have hK0 : (w.alloc (.cells (mc m lp lc dp dc) 28)).cell? ⟨w.heap.size, 0, none⟩ = some (.int .i64 6) := (hR0.cell.trans mc0).trans (by rw [hkd])
  have hBw0 : Below w.heap.size w (w.alloc (.cells (mc m lp lc dp dc) 28)) := (Below.refl _ _).alloc (Nat.le_refl _) _
  have hB1 : Below (w.heap.size + 1) (w.alloc (.cells (mc m lp lc dp dc) 28)) (((w.alloc (.cells (mc m lp lc dp dc) 28)).alloc (.cells #[.int .u8 6] 5)).alloc (.cells #[.slice (some ⟨w.heap.size + 1, 0, none⟩) 1 1, .int .i64 0] 55)) := ((Below.refl _ _).alloc (by simp) _).alloc (by simp) _
  have hR1 := hR0.below hB1 (by omega)
  have hK1 : (((w.alloc (.cells (mc m lp lc dp dc) 28)).alloc (.cells #[.int .u8 6] 5)).alloc (.cells #[.slice (some ⟨w.heap.size + 1, 0, none⟩) 1 1, .int .i64 0] 55)).cell? ⟨w.heap.size, 0, none⟩ = some (.int .i64 6) := (hR1.cell.trans mc0).trans (by rw [hkd])
  have hrw : Row (((w.alloc (.cells (mc m lp lc dp dc) 28)).alloc (.cells #[.int .u8 6] 5)).alloc (.cells #[.slice (some ⟨w.heap.size + 1, 0, none⟩) 1 1, .int .i64 0] 55)) (w.heap.size + 1 + 1) 55 #[.slice (some ⟨w.heap.size + 1, 0, none⟩) 1 1, .int .i64 0] := Row.newAt _ 55 _ _ (by simp)
  have how : Own8 (((w.alloc (.cells (mc m lp lc dp dc) 28)).alloc (.cells #[.int .u8 6] 5)).alloc (.cells #[.slice (some ⟨w.heap.size + 1, 0, none⟩) 1 1, .int .i64 0] 55)) (w.heap.size + 1) 5 (.slice (some ⟨w.heap.size + 1, 0, none⟩) 1 1) [6] := by
    obtain ⟨_, sp, cap, hr, ho⟩ := RW.new (w.alloc (.cells (mc m lp lc dp dc) 28)) 6
    rw [hs0] at hr ho
    have := hr.symm.trans hrw
    injection this with this
    injection this with this
    injection this with this
    injection this with e1 e2
    injection e1 with e1 e3 e4
    subst e1; subst e4
    exact ho
  have hc90 : (((w.alloc (.cells (mc m lp lc dp dc) 28)).alloc (.cells #[.int .u8 6] 5)).alloc (.cells #[.slice (some ⟨w.heap.size + 1, 0, none⟩) 1 1, .int .i64 0] 55)).cell? ⟨w.heap.size + 1 + 1, 0, none⟩ = some (.slice (some ⟨w.heap.size + 1, 0, none⟩) 1 1) := hrw.cell
  have hc91 : (((w.alloc (.cells (mc m lp lc dp dc) 28)).alloc (.cells #[.int .u8 6] 5)).alloc (.cells #[.slice (some ⟨w.heap.size + 1, 0, none⟩) 1 1, .int .i64 0] 55)).cell? ⟨w.heap.size + 1 + 1, 1, none⟩ = some (.int .i64 0) := hrw.cell
  have hcd : (((w.alloc (.cells (mc m lp lc dp dc) 28)).alloc (.cells #[.int .u8 6] 5)).alloc (.cells #[.slice (some ⟨w.heap.size + 1, 0, none⟩) 1 1, .int .i64 0] 55)).cell? ⟨w.heap.size, 4, none⟩ = some (.bool false) := (hR1.cell.trans mc4).trans (by rw [hdn])
  have hx2 : ∀ W E bs g, Below (w.heap.size + 1) (w.alloc (.cells (mc m lp lc dp dc) 28)) W → RW W (w.heap.size + 1) g E bs → bs.length ≤ 10000000 → Calls Try.prog 22 #[.pointer (some ⟨g, 0, none⟩), .slice lp m.list.length lc] W fun e w' => e = .returned (.tuple #[]) ∧ Below (w.heap.size + 1) (w.alloc (.cells (mc m lp lc dp dc) 28)) w' ∧ RW w' (w.heap.size + 1) g (fst2 E (partE 2 m)) (bs ++ rB 2 m) := fun W E bs g h1 h2 h3 => by
    have := e_list m (w.alloc (.cells (mc m lp lc dp dc) 28)) W g E bs (by rw [hs0]; exact h1) (by rw [hs0]; exact h2) h3 lp lc (hF.below hBw0).ints hll
    rwa [hs0] at this
  have hl2 := rB_len 2 m hk hll hdl
  have hL1 : ([6] ++ [0] : List Int).length ≤ 10000000 := by simp only [List.length_append, List.length_cons, List.length_nil]; omega
  have hEq : Hid (fst2 (0) (partE 2 m) = rowE m [3, 2]) := by
    show _ = _
    simp only [rowE_cons, show rowE m [] = 0 from rfl, fst2_zero]
    rfl
  obtain ⟨xs, hxs⟩ : ∃ xs : List Int, xs = (6 :: [3, 2].flatMap (fun p => rB p m)) := ⟨_, rfl⟩
  have hBq : Hid ([6] ++ [0] ++ rB 2 m = xs) := by
    show _ = _
    rw [hxs]
    simp [show rB 3 m = [0] by simp [rB, hdn]]
  clear hxs
  have hz' : Hid (rowE m [3, 2] = F) := hz
  clear hz hs0 hl2
  have hd : (F == 0) = false := by simpa using hne
  go_enter Try.func12, Try.ntmps12
  go_wp2_with first | (at_builtin; (refine append8k (.tmp 74) (.tmp 75) 25 5 (by rfl) (by rfl) (w.heap.size + 1) Try.underlying25 info5 (.slice (some ⟨w.heap.size + 1, 0, none⟩) 1 1) [6] (by rfl) ?ho (some ⟨w.heap.size + 1 + 1 + 1, 0, none⟩) 1 1 [0] (by rfl) rfl ?hnil ?hby ?hlen ?hB ?_; (case ho => exact (how.alloc _)); (case hnil => exact (fun h => by cases h)); (case hby => exact (bytes_newAtRenc6 (((w.alloc (.cells (mc m lp lc dp dc) 28)).alloc (.cells #[.int .u8 6] 5)).alloc (.cells #[.slice (some ⟨w.heap.size + 1, 0, none⟩) 1 1, .int .i64 0] 55)) 5 [0] _ (by simp))); (case hlen => simp); (case hB => simp); simp only [List.length_append, List.length_cons, List.length_nil, Nat.zero_add]; intro sp5 cap5 w5 o5 b5 k5; have hr5 := k5 _ _ _ (by decide) (hrw.alloc _); have hR5 := k5 _ _ _ (by decide) (hR1.alloc _); have hc50 : w5.cell? ⟨w.heap.size + 1 + 1, 0, none⟩ = some (.slice (some ⟨w.heap.size + 1, 0, none⟩) 1 1) := hr5.cell; have hc51 : w5.cell? ⟨w.heap.size + 1 + 1, 1, none⟩ = some (.int .i64 0) := hr5.cell; have hf5 := hr5.frozen (j := 0); have hK5 : w5.cell? ⟨w.heap.size, 0, none⟩ = some (.int .i64 6) := (hR5.cell.trans mc0).trans (by rw [hkd]); have hB2 : Below (w.heap.size + 1) (w.alloc (.cells (mc m lp lc dp dc) 28)) (w5.setCell ⟨w.heap.size + 1 + 1, 0, none⟩ (.slice sp5 (1 + 1) cap5)) := ((hB1.alloc (by simp) _).trans b5).setCell (by show w.heap.size + 1 ≤ w.heap.size + 1 + 1; omega) _; have hW2 := RW.stored (by show w.heap.size + 1 ≤ w.heap.size + 1 + 1; omega) hr5 (by simp) o5; have hc52 := (hR5.cell (j := 3)).trans mc3)) | (go_at_call 22; (with_reducible refine Calls.mono (hx2 _ _ _ _ hB2 hW2 hL1) ?_); rintro e w3 ⟨rfl, hB3, hW3⟩; have hR3 := hR0.below hB3 (Nat.lt_succ_self _); have hK3 : w3.cell? ⟨w.heap.size, 0, none⟩ = some (.int .i64 6) := (hR3.cell.trans mc0).trans (by rw [hkd]); obtain ⟨hg9, sp9, cap9, hr9, ho9⟩ := hW3.cast (hEq.out.trans hz'.out) hBq.out; have hc92 : w3.cell? ⟨w.heap.size + 1 + 1, 0, none⟩ = some (.slice sp9 xs.length cap9) := hr9.cell; have hc93 : w3.cell? ⟨w.heap.size + 1 + 1, 1, none⟩ = some (.int .i64 F) := hr9.cell; have hB9 := hB3)
  go_region
  go_wp2
  go_ret2
  have h9 := hBw0.trans (hB9.mono (show w.heap.size ≤ w.heap.size + 1 by omega))
  exact ⟨rfl, ⟨h9.os, h9.tape, h9.output, h9.size, h9.block⟩⟩
end

section
open Go.RowKit

set_option maxRecDepth 20000 in
set_option maxHeartbeats 1000000 in
theorem renc8z (m : M) (hkd : m.kind = 8) (lp dp : Option Addr) (lc dc : Nat) (w : World) (hF : Fld w m lp lc dp dc) (hll : m.list.length ≤ 100000) (hdl : m.data.length ≤ 100000) (hz : rowE m [4, 6] = 0) :
    Calls Try.prog 12 #[.agg (mc m lp lc dp dc)] w fun e w' => ∃ sp cap, e = .returned (.tuple #[.slice sp (8 :: [4, 6].flatMap (fun p => rB p m)).length cap, .int .i64 0]) ∧ Own8 w' w.heap.size 5 (.slice sp (8 :: [4, 6].flatMap (fun p => rB p m)).length cap) (8 :: [4, 6].flatMap (fun p => rB p m)) ∧ Below w.heap.size w w' := by
  have hk := hF.key
  have hR0 : Row (w.alloc (.cells (mc m lp lc dp dc) 28)) w.heap.size 28 (mc m lp lc dp dc) := Row.new w 28 _
  have hs0 : (w.alloc (.cells (mc m lp lc dp dc) 28)).heap.size = w.heap.size + 1 := by simp
  have hK0 : (w.alloc (.cells (mc m lp lc dp dc) 28)).cell? ⟨w.heap.size, 0, none⟩ = some (.int .i64 8) := (hR0.cell.trans mc0).trans (by rw [hkd])
  have hBw0 : Below w.heap.size w (w.alloc (.cells (mc m lp lc dp dc) 28)) := (Below.refl _ _).alloc (Nat.le_refl _) _
  have hW1 := RW.new (w.alloc (.cells (mc m lp lc dp dc) 28)) 8
  rw [hs0] at hW1
  have hB1 : Below (w.heap.size + 1) (w.alloc (.cells (mc m lp lc dp dc) 28)) (((w.alloc (.cells (mc m lp lc dp dc) 28)).alloc (.cells #[.int .u8 8] 5)).alloc (.cells #[.slice (some ⟨w.heap.size + 1, 0, none⟩) 1 1, .int .i64 0] 55)) := ((Below.refl _ _).alloc (by simp) _).alloc (by simp) _
  have hR1 := hR0.below hB1 (by omega)
  have hK1 : (((w.alloc (.cells (mc m lp lc dp dc) 28)).alloc (.cells #[.int .u8 8] 5)).alloc (.cells #[.slice (some ⟨w.heap.size + 1, 0, none⟩) 1 1, .int .i64 0] 55)).cell? ⟨w.heap.size, 0, none⟩ = some (.int .i64 8) := (hR1.cell.trans mc0).trans (by rw [hkd])
  have hc1 := (hR1.cell (j := 39)).trans (mc39 hk)
  have hx4 : ∀ W E bs g, Below (w.heap.size + 1) (w.alloc (.cells (mc m lp lc dp dc) 28)) W → RW W (w.heap.size + 1) g E bs → bs.length ≤ 10000000 → Calls Try.prog 23 #[.pointer (some ⟨g, 0, none⟩), .int .i64 m.err] W fun e w' => e = .returned (.tuple #[]) ∧ Below (w.heap.size + 1) (w.alloc (.cells (mc m lp lc dp dc) 28)) w' ∧ RW w' (w.heap.size + 1) g (fst2 E (partE 4 m)) (bs ++ rB 4 m) := fun W E bs g h1 h2 h3 => by
    have := e_err m (w.alloc (.cells (mc m lp lc dp dc) 28)) W g E bs (by rw [hs0]; exact h1) (by rw [hs0]; exact h2) h3
    rwa [hs0] at this
  have hl4 := rB_len 4 m hk hll hdl
  have hL0 : ([8] : List Int).length ≤ 10000000 := by simp only [List.length_cons, List.length_nil]; omega
  have hx6 : ∀ W E bs g, Below (w.heap.size + 1) (w.alloc (.cells (mc m lp lc dp dc) 28)) W → RW W (w.heap.size + 1) g E bs → bs.length ≤ 10000000 → Calls Try.prog 24 #[.pointer (some ⟨g, 0, none⟩), .slice dp m.data.length dc] W fun e w' => e = .returned (.tuple #[]) ∧ Below (w.heap.size + 1) (w.alloc (.cells (mc m lp lc dp dc) 28)) w' ∧ RW w' (w.heap.size + 1) g (fst2 E (partE 6 m)) (bs ++ rB 6 m) := fun W E bs g h1 h2 h3 => by
    have := e_data m (w.alloc (.cells (mc m lp lc dp dc) 28)) W g E bs (by rw [hs0]; exact h1) (by rw [hs0]; exact h2) h3 dp dc (hF.below hBw0).bytes hF.dnil hdl
    rwa [hs0] at this
  have hl6 := rB_len 6 m hk hll hdl
  have hL1 : ([8] ++ rB 4 m : List Int).length ≤ 10000000 := by simp only [List.length_append, List.length_cons, List.length_nil]; omega
  have hEq : Hid (fst2 (fst2 (0) (partE 4 m)) (partE 6 m) = rowE m [4, 6]) := by
    show _ = _
    simp only [rowE_cons, show rowE m [] = 0 from rfl, fst2_zero, fst2_assoc]
    rfl
  obtain ⟨xs, hxs⟩ : ∃ xs : List Int, xs = (8 :: [4, 6].flatMap (fun p => rB p m)) := ⟨_, rfl⟩
  rw [← hxs]
  have hBq : Hid ([8] ++ rB 4 m ++ rB 6 m = xs) := by show _ = _; rw [hxs]; simp
  clear hxs
  have hz' : Hid (rowE m [4, 6] = 0) := hz
  clear hz hs0 hl4 hl6
  go_enter Try.func12, Try.ntmps12
  go_wp2_with first | (go_at_call 23; (with_reducible refine Calls.mono (hx4 _ _ _ _ hB1 hW1 hL0) ?_); rintro e w2 ⟨rfl, hB2, hW2⟩; have hR2 := hR0.below hB2 (Nat.lt_succ_self _); have hK2 : w2.cell? ⟨w.heap.size, 0, none⟩ = some (.int .i64 8) := (hR2.cell.trans mc0).trans (by rw [hkd]); have hc2 := (hR2.cell (j := 37)).trans (mc37 hk)) | (go_at_call 24; (with_reducible refine Calls.mono (hx6 _ _ _ _ hB2 hW2 hL1) ?_); rintro e w3 ⟨rfl, hB3, hW3⟩; have hR3 := hR0.below hB3 (Nat.lt_succ_self _); have hK3 : w3.cell? ⟨w.heap.size, 0, none⟩ = some (.int .i64 8) := (hR3.cell.trans mc0).trans (by rw [hkd]); obtain ⟨hg9, sp9, cap9, hr9, ho9⟩ := hW3.cast (hEq.out.trans hz'.out) hBq.out; have hc90 : w3.cell? ⟨w.heap.size + 1 + 1, 0, none⟩ = some (.slice sp9 xs.length cap9) := hr9.cell; have hc91 : w3.cell? ⟨w.heap.size + 1 + 1, 1, none⟩ = some (.int .i64 0) := hr9.cell; have hB9 := hB3)
  go_ret2
  exact ⟨sp9, cap9, rfl, ho9.mono (by omega), hBw0.trans (hB9.mono (by omega))⟩

set_option maxRecDepth 20000 in
set_option maxHeartbeats 1000000 in
theorem renc8e (m : M) (hkd : m.kind = 8) (lp dp : Option Addr) (lc dc : Nat) (w : World) (hF : Fld w m lp lc dp dc) (hll : m.list.length ≤ 100000) (hdl : m.data.length ≤ 100000) (F : Int) (hne : F ≠ 0) (hz : rowE m [4, 6] = F) :
    Calls Try.prog 12 #[.agg (mc m lp lc dp dc)] w fun e w' => e = .returned (.tuple #[.slice none 0 0, .int .i64 F]) ∧ Below w.heap.size w w' := by
  have hk := hF.key
  have hR0 : Row (w.alloc (.cells (mc m lp lc dp dc) 28)) w.heap.size 28 (mc m lp lc dp dc) := Row.new w 28 _
  have hs0 : (w.alloc (.cells (mc m lp lc dp dc) 28)).heap.size = w.heap.size + 1 := by simp
  have hK0 : (w.alloc (.cells (mc m lp lc dp dc) 28)).cell? ⟨w.heap.size, 0, none⟩ = some (.int .i64 8) := (hR0.cell.trans mc0).trans (by rw [hkd])
  have hBw0 : Below w.heap.size w (w.alloc (.cells (mc m lp lc dp dc) 28)) := (Below.refl _ _).alloc (Nat.le_refl _) _
  have hW1 := RW.new (w.alloc (.cells (mc m lp lc dp dc) 28)) 8
  rw [hs0] at hW1
  have hB1 : Below (w.heap.size + 1) (w.alloc (.cells (mc m lp lc dp dc) 28)) (((w.alloc (.cells (mc m lp lc dp dc) 28)).alloc (.cells #[.int .u8 8] 5)).alloc (.cells #[.slice (some ⟨w.heap.size + 1, 0, none⟩) 1 1, .int .i64 0] 55)) := ((Below.refl _ _).alloc (by simp) _).alloc (by simp) _
  have hR1 := hR0.below hB1 (by omega)
  have hK1 : (((w.alloc (.cells (mc m lp lc dp dc) 28)).alloc (.cells #[.int .u8 8] 5)).alloc (.cells #[.slice (some ⟨w.heap.size + 1, 0, none⟩) 1 1, .int .i64 0] 55)).cell? ⟨w.heap.size, 0, none⟩ = some (.int .i64 8) := (hR1.cell.trans mc0).trans (by rw [hkd])
  have hc1 := (hR1.cell (j := 39)).trans (mc39 hk)
  have hx4 : ∀ W E bs g, Below (w.heap.size + 1) (w.alloc (.cells (mc m lp lc dp dc) 28)) W → RW W (w.heap.size + 1) g E bs → bs.length ≤ 10000000 → Calls Try.prog 23 #[.pointer (some ⟨g, 0, none⟩), .int .i64 m.err] W fun e w' => e = .returned (.tuple #[]) ∧ Below (w.heap.size + 1) (w.alloc (.cells (mc m lp lc dp dc) 28)) w' ∧ RW w' (w.heap.size + 1) g (fst2 E (partE 4 m)) (bs ++ rB 4 m) := fun W E bs g h1 h2 h3 => by
    have := e_err m (w.alloc (.cells (mc m lp lc dp dc) 28)) W g E bs (by rw [hs0]; exact h1) (by rw [hs0]; exact h2) h3
    rwa [hs0] at this
  have hl4 := rB_len 4 m hk hll hdl
  have hL0 : ([8] : List Int).length ≤ 10000000 := by simp only [List.length_cons, List.length_nil]; omega
  have hx6 : ∀ W E bs g, Below (w.heap.size + 1) (w.alloc (.cells (mc m lp lc dp dc) 28)) W → RW W (w.heap.size + 1) g E bs → bs.length ≤ 10000000 → Calls Try.prog 24 #[.pointer (some ⟨g, 0, none⟩), .slice dp m.data.length dc] W fun e w' => e = .returned (.tuple #[]) ∧ Below (w.heap.size + 1) (w.alloc (.cells (mc m lp lc dp dc) 28)) w' ∧ RW w' (w.heap.size + 1) g (fst2 E (partE 6 m)) (bs ++ rB 6 m) := fun W E bs g h1 h2 h3 => by
    have := e_data m (w.alloc (.cells (mc m lp lc dp dc) 28)) W g E bs (by rw [hs0]; exact h1) (by rw [hs0]; exact h2) h3 dp dc (hF.below hBw0).bytes hF.dnil hdl
    rwa [hs0] at this
  have hl6 := rB_len 6 m hk hll hdl
  have hL1 : ([8] ++ rB 4 m : List Int).length ≤ 10000000 := by simp only [List.length_append, List.length_cons, List.length_nil]; omega
  have hEq : Hid (fst2 (fst2 (0) (partE 4 m)) (partE 6 m) = rowE m [4, 6]) := by
    show _ = _
    simp only [rowE_cons, show rowE m [] = 0 from rfl, fst2_zero, fst2_assoc]
    rfl
  obtain ⟨xs, hxs⟩ : ∃ xs : List Int, xs = (8 :: [4, 6].flatMap (fun p => rB p m)) := ⟨_, rfl⟩
  have hBq : Hid ([8] ++ rB 4 m ++ rB 6 m = xs) := by show _ = _; rw [hxs]; simp
  clear hxs
  have hz' : Hid (rowE m [4, 6] = F) := hz
  clear hz hs0 hl4 hl6
  have hd : (F == 0) = false := by simpa using hne
  go_enter Try.func12, Try.ntmps12
  go_wp2_with first | (go_at_call 23; (with_reducible refine Calls.mono (hx4 _ _ _ _ hB1 hW1 hL0) ?_); rintro e w2 ⟨rfl, hB2, hW2⟩; have hR2 := hR0.below hB2 (Nat.lt_succ_self _); have hK2 : w2.cell? ⟨w.heap.size, 0, none⟩ = some (.int .i64 8) := (hR2.cell.trans mc0).trans (by rw [hkd]); have hc2 := (hR2.cell (j := 37)).trans (mc37 hk)) | (go_at_call 24; (with_reducible refine Calls.mono (hx6 _ _ _ _ hB2 hW2 hL1) ?_); rintro e w3 ⟨rfl, hB3, hW3⟩; have hR3 := hR0.below hB3 (Nat.lt_succ_self _); have hK3 : w3.cell? ⟨w.heap.size, 0, none⟩ = some (.int .i64 8) := (hR3.cell.trans mc0).trans (by rw [hkd]); obtain ⟨hg9, sp9, cap9, hr9, ho9⟩ := hW3.cast (hEq.out.trans hz'.out) hBq.out; have hc90 : w3.cell? ⟨w.heap.size + 1 + 1, 0, none⟩ = some (.slice sp9 xs.length cap9) := hr9.cell; have hc91 : w3.cell? ⟨w.heap.size + 1 + 1, 1, none⟩ = some (.int .i64 F) := hr9.cell; have hB9 := hB3)
  go_region
  go_wp2
  go_ret2
  have h9 := hBw0.trans (hB9.mono (show w.heap.size ≤ w.heap.size + 1 by omega))
  exact ⟨rfl, ⟨h9.os, h9.tape, h9.output, h9.size, h9.block⟩⟩
end

section
open Go.RowKit

theorem bytes_newAtRenc9 (w : World) (t : TypeId) (cs : List Int) (b : Nat) (hb : b = w.heap.size) : Bytes (w.alloc (.cells (v8 cs) t)) (some ⟨b, 0, none⟩) cs := by subst hb; exact bytes_new w t cs

set_option maxRecDepth 20000 in
set_option maxHeartbeats 1000000 in
theorem renc9z (m : M) (hkd : m.kind = 9) (lp dp : Option Addr) (lc dc : Nat) (w : World) (hF : Fld w m lp lc dp dc) (hll : m.list.length ≤ 100000) (hdl : m.data.length ≤ 100000) (hz : rowE m [5, 6, 1, 7] = 0) :
    Calls Try.prog 12 #[.agg (mc m lp lc dp dc)] w fun e w' => ∃ sp cap, e = .returned (.tuple #[.slice sp (9 :: [5, 6, 1, 7].flatMap (fun p => rB p m)).length cap, .int .i64 0]) ∧ Own8 w' w.heap.size 5 (.slice sp (9 :: [5, 6, 1, 7].flatMap (fun p => rB p m)).length cap) (9 :: [5, 6, 1, 7].flatMap (fun p => rB p m)) ∧ Below w.heap.size w w' := by
  have hk := hF.key
  have hR0 : Row (w.alloc (.cells (mc m lp lc dp dc) 28)) w.heap.size 28 (mc m lp lc dp dc) := Row.new w 28 _
  have hs0 : (w.alloc (.cells (mc m lp lc dp dc) 28)).heap.size = w.heap.size + 1 := by simp
  have hK0 : (w.alloc (.cells (mc m lp lc dp dc) 28)).cell? ⟨w.heap.size, 0, none⟩ = some (.int .i64 9) := (hR0.cell.trans mc0).trans (by rw [hkd])
  have hBw0 : Below w.heap.size w (w.alloc (.cells (mc m lp lc dp dc) 28)) := (Below.refl _ _).alloc (Nat.le_refl _) _
  have hB1 : Below (w.heap.size + 1) (w.alloc (.cells (mc m lp lc dp dc) 28)) (((w.alloc (.cells (mc m lp lc dp dc) 28)).alloc (.cells #[.int .u8 9] 5)).alloc (.cells #[.slice (some ⟨w.heap.size + 1, 0, none⟩) 1 1, .int .i64 0] 55)) := ((Below.refl _ _).alloc (by simp) _).alloc (by simp) _
  have hR1 := hR0.below hB1 (by omega)
  have hK1 : (((w.alloc (.cells (mc m lp lc dp dc) 28)).alloc (.cells #[.int .u8 9] 5)).alloc (.cells #[.slice (some ⟨w.heap.size + 1, 0, none⟩) 1 1, .int .i64 0] 55)).cell? ⟨w.heap.size, 0, none⟩ = some (.int .i64 9) := (hR1.cell.trans mc0).trans (by rw [hkd])
  have hrw : Row (((w.alloc (.cells (mc m lp lc dp dc) 28)).alloc (.cells #[.int .u8 9] 5)).alloc (.cells #[.slice (some ⟨w.heap.size + 1, 0, none⟩) 1 1, .int .i64 0] 55)) (w.heap.size + 1 + 1) 55 #[.slice (some ⟨w.heap.size + 1, 0, none⟩) 1 1, .int .i64 0] := Row.newAt _ 55 _ _ (by simp)
  have how : Own8 (((w.alloc (.cells (mc m lp lc dp dc) 28)).alloc (.cells #[.int .u8 9] 5)).alloc (.cells #[.slice (some ⟨w.heap.size + 1, 0, none⟩) 1 1, .int .i64 0] 55)) (w.heap.size + 1) 5 (.slice (some ⟨w.heap.size + 1, 0, none⟩) 1 1) [9] := by
    obtain ⟨_, sp, cap, hr, ho⟩ := RW.new (w.alloc (.cells (mc m lp lc dp dc) 28)) 9
    rw [hs0] at hr ho
    have := hr.symm.trans hrw
    injection this with this
    injection this with this
    injection this with this
    injection this with e1 e2
    injection e1 with e1 e3 e4
    subst e1; subst e4
    exact ho
  have hc90 : (((w.alloc (.cells (mc m lp lc dp dc) 28)).alloc (.cells #[.int .u8 9] 5)).alloc (.cells #[.slice (some ⟨w.heap.size + 1, 0, none⟩) 1 1, .int .i64 0] 55)).cell? ⟨w.heap.size + 1 + 1, 0, none⟩ = some (.slice (some ⟨w.heap.size + 1, 0, none⟩) 1 1) := hrw.cell
  have hc91 : (((w.alloc (.cells (mc m lp lc dp dc) 28)).alloc (.cells #[.int .u8 9] 5)).alloc (.cells #[.slice (some ⟨w.heap.size + 1, 0, none⟩) 1 1, .int .i64 0] 55)).cell? ⟨w.heap.size + 1 + 1, 1, none⟩ = some (.int .i64 0) := hrw.cell
  have hby := key_bytes hR1 hk
  have hx6 : ∀ W E bs g, Below (w.heap.size + 1) (w.alloc (.cells (mc m lp lc dp dc) 28)) W → RW W (w.heap.size + 1) g E bs → bs.length ≤ 10000000 → Calls Try.prog 24 #[.pointer (some ⟨g, 0, none⟩), .slice dp m.data.length dc] W fun e w' => e = .returned (.tuple #[]) ∧ Below (w.heap.size + 1) (w.alloc (.cells (mc m lp lc dp dc) 28)) w' ∧ RW w' (w.heap.size + 1) g (fst2 E (partE 6 m)) (bs ++ rB 6 m) := fun W E bs g h1 h2 h3 => by
    have := e_data m (w.alloc (.cells (mc m lp lc dp dc) 28)) W g E bs (by rw [hs0]; exact h1) (by rw [hs0]; exact h2) h3 dp dc (hF.below hBw0).bytes hF.dnil hdl
    rwa [hs0] at this
  have hl6 := rB_len 6 m hk hll hdl
  have hL1 : ([9] ++ m.key : List Int).length ≤ 10000000 := by simp only [List.length_append, List.length_cons, List.length_nil]; omega
  have hx1 : ∀ W E bs g, Below (w.heap.size + 1) (w.alloc (.cells (mc m lp lc dp dc) 28)) W → RW W (w.heap.size + 1) g E bs → bs.length ≤ 10000000 → Calls Try.prog 21 #[.pointer (some ⟨g, 0, none⟩), .int .i64 m.node, .int .i64 0] W fun e w' => e = .returned (.tuple #[]) ∧ Below (w.heap.size + 1) (w.alloc (.cells (mc m lp lc dp dc) 28)) w' ∧ RW w' (w.heap.size + 1) g (fst2 E (partE 1 m)) (bs ++ rB 1 m) := fun W E bs g h1 h2 h3 => by
    have := e_node m (w.alloc (.cells (mc m lp lc dp dc) 28)) W g E bs (by rw [hs0]; exact h1) (by rw [hs0]; exact h2) h3
    rwa [hs0] at this
  have hl1 := rB_len 1 m hk hll hdl
  have hL2 : ([9] ++ m.key ++ rB 6 m : List Int).length ≤ 10000000 := by simp only [List.length_append, List.length_cons, List.length_nil]; omega
  have hx7 : ∀ W E bs g, Below (w.heap.size + 1) (w.alloc (.cells (mc m lp lc dp dc) 28)) W → RW W (w.heap.size + 1) g E bs → bs.length ≤ 10000000 → Calls Try.prog 25 #[.pointer (some ⟨g, 0, none⟩), .int .i64 m.lease] W fun e w' => e = .returned (.tuple #[]) ∧ Below (w.heap.size + 1) (w.alloc (.cells (mc m lp lc dp dc) 28)) w' ∧ RW w' (w.heap.size + 1) g (fst2 E (partE 7 m)) (bs ++ rB 7 m) := fun W E bs g h1 h2 h3 => by
    have := e_time m (w.alloc (.cells (mc m lp lc dp dc) 28)) W g E bs (by rw [hs0]; exact h1) (by rw [hs0]; exact h2) h3
    rwa [hs0] at this
  have hl7 := rB_len 7 m hk hll hdl
  have hL3 : ([9] ++ m.key ++ rB 6 m ++ rB 1 m : List Int).length ≤ 10000000 := by simp only [List.length_append, List.length_cons, List.length_nil]; omega
  have hEq : Hid (fst2 (fst2 (fst2 (0) (partE 6 m)) (partE 1 m)) (partE 7 m) = rowE m [5, 6, 1, 7]) := by
    show _ = _
    simp only [rowE_cons, show rowE m [] = 0 from rfl, fst2_zero, fst2_assoc]
    rfl
  obtain ⟨xs, hxs⟩ : ∃ xs : List Int, xs = (9 :: [5, 6, 1, 7].flatMap (fun p => rB p m)) := ⟨_, rfl⟩
  rw [← hxs]
  have hBq : Hid ([9] ++ m.key ++ rB 6 m ++ rB 1 m ++ rB 7 m = xs) := by
    show _ = _
    rw [hxs]
    simp [show rB 5 m = m.key from rfl]
  clear hxs
  have hz' : Hid (rowE m [5, 6, 1, 7] = 0) := hz
  clear hz hs0 hl6 hl1 hl7
  go_enter Try.func12, Try.ntmps12
  go_wp2
  go_region_law (refine step8 (.tmp 100) (.tmp 102) 25 5 ?h1 ?h2 (w.heap.size + 1) Try.underlying25 info5 (.slice (some ⟨w.heap.size + 1, 0, none⟩) 1 1) [9] ?h3 ?ho (some ⟨w.heap.size, 5, none⟩) 32 32 m.key ?h4 ?h5 ?h6 ?hby ?hlen ?hB ?_; (case h1 => rfl); (case h2 => rfl); (case h3 => rfl); (case h4 => rfl); (case h5 => exact hk); (case h6 => exact (fun h => by cases h)); (case hby => exact hby); (case ho => exact how); (case hlen => simp); (case hB => simp); simp only [List.length_append, hk, List.length_cons, List.length_nil]; intro sp5 cap5 w5 o5 b5 k5; have hr5 := k5 _ _ _ (by decide) (hrw.drewN 1); have hR5 := k5 _ _ _ (by decide) (hR1.drewN 1); have hc50 : w5.cell? ⟨w.heap.size + 1 + 1, 0, none⟩ = some (.slice (some ⟨w.heap.size + 1, 0, none⟩) 1 1) := hr5.cell; have hc51 : w5.cell? ⟨w.heap.size + 1 + 1, 1, none⟩ = some (.int .i64 0) := hr5.cell; have hf5 := hr5.frozen (j := 0); have hK5 : w5.cell? ⟨w.heap.size, 0, none⟩ = some (.int .i64 9) := (hR5.cell.trans mc0).trans (by rw [hkd]); have hB2 : Below (w.heap.size + 1) (w.alloc (.cells (mc m lp lc dp dc) 28)) (w5.setCell ⟨w.heap.size + 1 + 1, 0, none⟩ (.slice sp5 (0 + 1 + 32) cap5)) := (hB1.trans (((Below.refl _ _).drew).trans b5)).setCell (by show w.heap.size + 1 ≤ w.heap.size + 1 + 1; omega) _; have hW2 := RW.stored (by show w.heap.size + 1 ≤ w.heap.size + 1 + 1; omega) hr5 (by simp [hk]) o5; have hc52 := (hR5.cell (j := 37)).trans (mc37 hk))
  go_wp2_with first | (go_at_call 24; (with_reducible refine Calls.mono (hx6 _ _ _ _ hB2 hW2 hL1) ?_); rintro e w3 ⟨rfl, hB3, hW3⟩; have hR3 := hR0.below hB3 (Nat.lt_succ_self _); have hK3 : w3.cell? ⟨w.heap.size, 0, none⟩ = some (.int .i64 9) := (hR3.cell.trans mc0).trans (by rw [hkd]); have hc3 := (hR3.cell (j := 1)).trans mc1) | (go_at_call 21; (with_reducible refine Calls.mono (hx1 _ _ _ _ hB3 hW3 hL2) ?_); rintro e w4 ⟨rfl, hB4, hW4⟩; have hR4 := hR0.below hB4 (Nat.lt_succ_self _); have hK4 : w4.cell? ⟨w.heap.size, 0, none⟩ = some (.int .i64 9) := (hR4.cell.trans mc0).trans (by rw [hkd]); have hc4 := (hR4.cell (j := 38)).trans (mc38 hk)) | (go_at_call 25; (with_reducible refine Calls.mono (hx7 _ _ _ _ hB4 hW4 hL3) ?_); rintro e w5 ⟨rfl, hB5, hW5⟩; have hR5 := hR0.below hB5 (Nat.lt_succ_self _); have hK5 : w5.cell? ⟨w.heap.size, 0, none⟩ = some (.int .i64 9) := (hR5.cell.trans mc0).trans (by rw [hkd]); obtain ⟨hg9, sp9, cap9, hr9, ho9⟩ := hW5.cast (hEq.out.trans hz'.out) hBq.out; have hc92 : w5.cell? ⟨w.heap.size + 1 + 1, 0, none⟩ = some (.slice sp9 xs.length cap9) := hr9.cell; have hc93 : w5.cell? ⟨w.heap.size + 1 + 1, 1, none⟩ = some (.int .i64 0) := hr9.cell; have hB9 := hB5)
  go_ret2
  exact ⟨sp9, cap9, rfl, ho9.mono (by omega), hBw0.trans (hB9.mono (by omega))⟩

set_option maxRecDepth 20000 in
set_option maxHeartbeats 1000000 in
theorem renc9e (m : M) (hkd : m.kind = 9) (lp dp : Option Addr) (lc dc : Nat) (w : World) (hF : Fld w m lp lc dp dc) (hll : m.list.length ≤ 100000) (hdl : m.data.length ≤ 100000) (F : Int) (hne : F ≠ 0) (hz : rowE m [5, 6, 1, 7] = F) :
    Calls Try.prog 12 #[.agg (mc m lp lc dp dc)] w fun e w' => e = .returned (.tuple #[.slice none 0 0, .int .i64 F]) ∧ Below w.heap.size w w' := by
  have hk := hF.key
  have hR0 : Row (w.alloc (.cells (mc m lp lc dp dc) 28)) w.heap.size 28 (mc m lp lc dp dc) := Row.new w 28 _
  have hs0 : (w.alloc (.cells (mc m lp lc dp dc) 28)).heap.size = w.heap.size + 1 := by simp
  have hK0 : (w.alloc (.cells (mc m lp lc dp dc) 28)).cell? ⟨w.heap.size, 0, none⟩ = some (.int .i64 9) := (hR0.cell.trans mc0).trans (by rw [hkd])
  have hBw0 : Below w.heap.size w (w.alloc (.cells (mc m lp lc dp dc) 28)) := (Below.refl _ _).alloc (Nat.le_refl _) _
  have hB1 : Below (w.heap.size + 1) (w.alloc (.cells (mc m lp lc dp dc) 28)) (((w.alloc (.cells (mc m lp lc dp dc) 28)).alloc (.cells #[.int .u8 9] 5)).alloc (.cells #[.slice (some ⟨w.heap.size + 1, 0, none⟩) 1 1, .int .i64 0] 55)) := ((Below.refl _ _).alloc (by simp) _).alloc (by simp) _
  have hR1 := hR0.below hB1 (by omega)
  have hK1 : (((w.alloc (.cells (mc m lp lc dp dc) 28)).alloc (.cells #[.int .u8 9] 5)).alloc (.cells #[.slice (some ⟨w.heap.size + 1, 0, none⟩) 1 1, .int .i64 0] 55)).cell? ⟨w.heap.size, 0, none⟩ = some (.int .i64 9) := (hR1.cell.trans mc0).trans (by rw [hkd])
  have hrw : Row (((w.alloc (.cells (mc m lp lc dp dc) 28)).alloc (.cells #[.int .u8 9] 5)).alloc (.cells #[.slice (some ⟨w.heap.size + 1, 0, none⟩) 1 1, .int .i64 0] 55)) (w.heap.size + 1 + 1) 55 #[.slice (some ⟨w.heap.size + 1, 0, none⟩) 1 1, .int .i64 0] := Row.newAt _ 55 _ _ (by simp)
  have how : Own8 (((w.alloc (.cells (mc m lp lc dp dc) 28)).alloc (.cells #[.int .u8 9] 5)).alloc (.cells #[.slice (some ⟨w.heap.size + 1, 0, none⟩) 1 1, .int .i64 0] 55)) (w.heap.size + 1) 5 (.slice (some ⟨w.heap.size + 1, 0, none⟩) 1 1) [9] := by
    obtain ⟨_, sp, cap, hr, ho⟩ := RW.new (w.alloc (.cells (mc m lp lc dp dc) 28)) 9
    rw [hs0] at hr ho
    have := hr.symm.trans hrw
    injection this with this
    injection this with this
    injection this with this
    injection this with e1 e2
    injection e1 with e1 e3 e4
    subst e1; subst e4
    exact ho
  have hc90 : (((w.alloc (.cells (mc m lp lc dp dc) 28)).alloc (.cells #[.int .u8 9] 5)).alloc (.cells #[.slice (some ⟨w.heap.size + 1, 0, none⟩) 1 1, .int .i64 0] 55)).cell? ⟨w.heap.size + 1 + 1, 0, none⟩ = some (.slice (some ⟨w.heap.size + 1, 0, none⟩) 1 1) := hrw.cell
  have hc91 : (((w.alloc (.cells (mc m lp lc dp dc) 28)).alloc (.cells #[.int .u8 9] 5)).alloc (.cells #[.slice (some ⟨w.heap.size + 1, 0, none⟩) 1 1, .int .i64 0] 55)).cell? ⟨w.heap.size + 1 + 1, 1, none⟩ = some (.int .i64 0) := hrw.cell
  have hby := key_bytes hR1 hk
  have hx6 : ∀ W E bs g, Below (w.heap.size + 1) (w.alloc (.cells (mc m lp lc dp dc) 28)) W → RW W (w.heap.size + 1) g E bs → bs.length ≤ 10000000 → Calls Try.prog 24 #[.pointer (some ⟨g, 0, none⟩), .slice dp m.data.length dc] W fun e w' => e = .returned (.tuple #[]) ∧ Below (w.heap.size + 1) (w.alloc (.cells (mc m lp lc dp dc) 28)) w' ∧ RW w' (w.heap.size + 1) g (fst2 E (partE 6 m)) (bs ++ rB 6 m) := fun W E bs g h1 h2 h3 => by
    have := e_data m (w.alloc (.cells (mc m lp lc dp dc) 28)) W g E bs (by rw [hs0]; exact h1) (by rw [hs0]; exact h2) h3 dp dc (hF.below hBw0).bytes hF.dnil hdl
    rwa [hs0] at this
  have hl6 := rB_len 6 m hk hll hdl
  have hL1 : ([9] ++ m.key : List Int).length ≤ 10000000 := by simp only [List.length_append, List.length_cons, List.length_nil]; omega
  have hx1 : ∀ W E bs g, Below (w.heap.size + 1) (w.alloc (.cells (mc m lp lc dp dc) 28)) W → RW W (w.heap.size + 1) g E bs → bs.length ≤ 10000000 → Calls Try.prog 21 #[.pointer (some ⟨g, 0, none⟩), .int .i64 m.node, .int .i64 0] W fun e w' => e = .returned (.tuple #[]) ∧ Below (w.heap.size + 1) (w.alloc (.cells (mc m lp lc dp dc) 28)) w' ∧ RW w' (w.heap.size + 1) g (fst2 E (partE 1 m)) (bs ++ rB 1 m) := fun W E bs g h1 h2 h3 => by
    have := e_node m (w.alloc (.cells (mc m lp lc dp dc) 28)) W g E bs (by rw [hs0]; exact h1) (by rw [hs0]; exact h2) h3
    rwa [hs0] at this
  have hl1 := rB_len 1 m hk hll hdl
  have hL2 : ([9] ++ m.key ++ rB 6 m : List Int).length ≤ 10000000 := by simp only [List.length_append, List.length_cons, List.length_nil]; omega
  have hx7 : ∀ W E bs g, Below (w.heap.size + 1) (w.alloc (.cells (mc m lp lc dp dc) 28)) W → RW W (w.heap.size + 1) g E bs → bs.length ≤ 10000000 → Calls Try.prog 25 #[.pointer (some ⟨g, 0, none⟩), .int .i64 m.lease] W fun e w' => e = .returned (.tuple #[]) ∧ Below (w.heap.size + 1) (w.alloc (.cells (mc m lp lc dp dc) 28)) w' ∧ RW w' (w.heap.size + 1) g (fst2 E (partE 7 m)) (bs ++ rB 7 m) := fun W E bs g h1 h2 h3 => by
    have := e_time m (w.alloc (.cells (mc m lp lc dp dc) 28)) W g E bs (by rw [hs0]; exact h1) (by rw [hs0]; exact h2) h3
    rwa [hs0] at this
  have hl7 := rB_len 7 m hk hll hdl
  have hL3 : ([9] ++ m.key ++ rB 6 m ++ rB 1 m : List Int).length ≤ 10000000 := by simp only [List.length_append, List.length_cons, List.length_nil]; omega
  have hEq : Hid (fst2 (fst2 (fst2 (0) (partE 6 m)) (partE 1 m)) (partE 7 m) = rowE m [5, 6, 1, 7]) := by
    show _ = _
    simp only [rowE_cons, show rowE m [] = 0 from rfl, fst2_zero, fst2_assoc]
    rfl
  obtain ⟨xs, hxs⟩ : ∃ xs : List Int, xs = (9 :: [5, 6, 1, 7].flatMap (fun p => rB p m)) := ⟨_, rfl⟩
  have hBq : Hid ([9] ++ m.key ++ rB 6 m ++ rB 1 m ++ rB 7 m = xs) := by
    show _ = _
    rw [hxs]
    simp [show rB 5 m = m.key from rfl]
  clear hxs
  have hz' : Hid (rowE m [5, 6, 1, 7] = F) := hz
  clear hz hs0 hl6 hl1 hl7
  have hd : (F == 0) = false := by simpa using hne
  go_enter Try.func12, Try.ntmps12
  go_wp2
  go_region_law (refine step8 (.tmp 100) (.tmp 102) 25 5 ?h1 ?h2 (w.heap.size + 1) Try.underlying25 info5 (.slice (some ⟨w.heap.size + 1, 0, none⟩) 1 1) [9] ?h3 ?ho (some ⟨w.heap.size, 5, none⟩) 32 32 m.key ?h4 ?h5 ?h6 ?hby ?hlen ?hB ?_; (case h1 => rfl); (case h2 => rfl); (case h3 => rfl); (case h4 => rfl); (case h5 => exact hk); (case h6 => exact (fun h => by cases h)); (case hby => exact hby); (case ho => exact how); (case hlen => simp); (case hB => simp); simp only [List.length_append, hk, List.length_cons, List.length_nil]; intro sp5 cap5 w5 o5 b5 k5; have hr5 := k5 _ _ _ (by decide) (hrw.drewN 1); have hR5 := k5 _ _ _ (by decide) (hR1.drewN 1); have hc50 : w5.cell? ⟨w.heap.size + 1 + 1, 0, none⟩ = some (.slice (some ⟨w.heap.size + 1, 0, none⟩) 1 1) := hr5.cell; have hc51 : w5.cell? ⟨w.heap.size + 1 + 1, 1, none⟩ = some (.int .i64 0) := hr5.cell; have hf5 := hr5.frozen (j := 0); have hK5 : w5.cell? ⟨w.heap.size, 0, none⟩ = some (.int .i64 9) := (hR5.cell.trans mc0).trans (by rw [hkd]); have hB2 : Below (w.heap.size + 1) (w.alloc (.cells (mc m lp lc dp dc) 28)) (w5.setCell ⟨w.heap.size + 1 + 1, 0, none⟩ (.slice sp5 (0 + 1 + 32) cap5)) := (hB1.trans (((Below.refl _ _).drew).trans b5)).setCell (by show w.heap.size + 1 ≤ w.heap.size + 1 + 1; omega) _; have hW2 := RW.stored (by show w.heap.size + 1 ≤ w.heap.size + 1 + 1; omega) hr5 (by simp [hk]) o5; have hc52 := (hR5.cell (j := 37)).trans (mc37 hk))
  go_wp2_with first | (go_at_call 24; (with_reducible refine Calls.mono (hx6 _ _ _ _ hB2 hW2 hL1) ?_); rintro e w3 ⟨rfl, hB3, hW3⟩; have hR3 := hR0.below hB3 (Nat.lt_succ_self _); have hK3 : w3.cell? ⟨w.heap.size, 0, none⟩ = some (.int .i64 9) := (hR3.cell.trans mc0).trans (by rw [hkd]); have hc3 := (hR3.cell (j := 1)).trans mc1) | (go_at_call 21; (with_reducible refine Calls.mono (hx1 _ _ _ _ hB3 hW3 hL2) ?_); rintro e w4 ⟨rfl, hB4, hW4⟩; have hR4 := hR0.below hB4 (Nat.lt_succ_self _); have hK4 : w4.cell? ⟨w.heap.size, 0, none⟩ = some (.int .i64 9) := (hR4.cell.trans mc0).trans (by rw [hkd]); have hc4 := (hR4.cell (j := 38)).trans (mc38 hk)) | (go_at_call 25; (with_reducible refine Calls.mono (hx7 _ _ _ _ hB4 hW4 hL3) ?_); rintro e w5 ⟨rfl, hB5, hW5⟩; have hR5 := hR0.below hB5 (Nat.lt_succ_self _); have hK5 : w5.cell? ⟨w.heap.size, 0, none⟩ = some (.int .i64 9) := (hR5.cell.trans mc0).trans (by rw [hkd]); obtain ⟨hg9, sp9, cap9, hr9, ho9⟩ := hW5.cast (hEq.out.trans hz'.out) hBq.out; have hc92 : w5.cell? ⟨w.heap.size + 1 + 1, 0, none⟩ = some (.slice sp9 xs.length cap9) := hr9.cell; have hc93 : w5.cell? ⟨w.heap.size + 1 + 1, 1, none⟩ = some (.int .i64 F) := hr9.cell; have hB9 := hB5)
  go_region
  go_wp2
  go_ret2
  have h9 := hBw0.trans (hB9.mono (show w.heap.size ≤ w.heap.size + 1 by omega))
  exact ⟨rfl, ⟨h9.os, h9.tape, h9.output, h9.size, h9.block⟩⟩
end

section
open Go.RowKit

theorem bytes_newAtRenc10 (w : World) (t : TypeId) (cs : List Int) (b : Nat) (hb : b = w.heap.size) : Bytes (w.alloc (.cells (v8 cs) t)) (some ⟨b, 0, none⟩) cs := by subst hb; exact bytes_new w t cs

set_option maxRecDepth 20000 in
set_option maxHeartbeats 1000000 in
theorem renc10z (m : M) (hkd : m.kind = 10) (lp dp : Option Addr) (lc dc : Nat) (w : World) (hF : Fld w m lp lc dp dc) (hll : m.list.length ≤ 100000) (hdl : m.data.length ≤ 100000) (hz : rowE m [5, 6] = 0) :
    Calls Try.prog 12 #[.agg (mc m lp lc dp dc)] w fun e w' => ∃ sp cap, e = .returned (.tuple #[.slice sp (10 :: [5, 6].flatMap (fun p => rB p m)).length cap, .int .i64 0]) ∧ Own8 w' w.heap.size 5 (.slice sp (10 :: [5, 6].flatMap (fun p => rB p m)).length cap) (10 :: [5, 6].flatMap (fun p => rB p m)) ∧ Below w.heap.size w w' := by
  have hk := hF.key
  have hR0 : Row (w.alloc (.cells (mc m lp lc dp dc) 28)) w.heap.size 28 (mc m lp lc dp dc) := Row.new w 28 _
  have hs0 : (w.alloc (.cells (mc m lp lc dp dc) 28)).heap.size = w.heap.size + 1 := by simp
  have hK0 : (w.alloc (.cells (mc m lp lc dp dc) 28)).cell? ⟨w.heap.size, 0, none⟩ = some (.int .i64 10) := (hR0.cell.trans mc0).trans (by rw [hkd])
  have hBw0 : Below w.heap.size w (w.alloc (.cells (mc m lp lc dp dc) 28)) := (Below.refl _ _).alloc (Nat.le_refl _) _
  have hB1 : Below (w.heap.size + 1) (w.alloc (.cells (mc m lp lc dp dc) 28)) (((w.alloc (.cells (mc m lp lc dp dc) 28)).alloc (.cells #[.int .u8 10] 5)).alloc (.cells #[.slice (some ⟨w.heap.size + 1, 0, none⟩) 1 1, .int .i64 0] 55)) := ((Below.refl _ _).alloc (by simp) _).alloc (by simp) _
  have hR1 := hR0.below hB1 (by omega)
  have hK1 : (((w.alloc (.cells (mc m lp lc dp dc) 28)).alloc (.cells #[.int .u8 10] 5)).alloc (.cells #[.slice (some ⟨w.heap.size + 1, 0, none⟩) 1 1, .int .i64 0] 55)).cell? ⟨w.heap.size, 0, none⟩ = some (.int .i64 10) := (hR1.cell.trans mc0).trans (by rw [hkd])
  have hrw : Row (((w.alloc (.cells (mc m lp lc dp dc) 28)).alloc (.cells #[.int .u8 10] 5)).alloc (.cells #[.slice (some ⟨w.heap.size + 1, 0, none⟩) 1 1, .int .i64 0] 55)) (w.heap.size + 1 + 1) 55 #[.slice (some ⟨w.heap.size + 1, 0, none⟩) 1 1, .int .i64 0] := Row.newAt _ 55 _ _ (by simp)
  have how : Own8 (((w.alloc (.cells (mc m lp lc dp dc) 28)).alloc (.cells #[.int .u8 10] 5)).alloc (.cells #[.slice (some ⟨w.heap.size + 1, 0, none⟩) 1 1, .int .i64 0] 55)) (w.heap.size + 1) 5 (.slice (some ⟨w.heap.size + 1, 0, none⟩) 1 1) [10] := by
    obtain ⟨_, sp, cap, hr, ho⟩ := RW.new (w.alloc (.cells (mc m lp lc dp dc) 28)) 10
    rw [hs0] at hr ho
    have := hr.symm.trans hrw
    injection this with this
    injection this with this
    injection this with this
    injection this with e1 e2
    injection e1 with e1 e3 e4
    subst e1; subst e4
    exact ho
  have hc90 : (((w.alloc (.cells (mc m lp lc dp dc) 28)).alloc (.cells #[.int .u8 10] 5)).alloc (.cells #[.slice (some ⟨w.heap.size + 1, 0, none⟩) 1 1, .int .i64 0] 55)).cell? ⟨w.heap.size + 1 + 1, 0, none⟩ = some (.slice (some ⟨w.heap.size + 1, 0, none⟩) 1 1) := hrw.cell
  have hc91 : (((w.alloc (.cells (mc m lp lc dp dc) 28)).alloc (.cells #[.int .u8 10] 5)).alloc (.cells #[.slice (some ⟨w.heap.size + 1, 0, none⟩) 1 1, .int .i64 0] 55)).cell? ⟨w.heap.size + 1 + 1, 1, none⟩ = some (.int .i64 0) := hrw.cell
  have hby := key_bytes hR1 hk
  have hx6 : ∀ W E bs g, Below (w.heap.size + 1) (w.alloc (.cells (mc m lp lc dp dc) 28)) W → RW W (w.heap.size + 1) g E bs → bs.length ≤ 10000000 → Calls Try.prog 24 #[.pointer (some ⟨g, 0, none⟩), .slice dp m.data.length dc] W fun e w' => e = .returned (.tuple #[]) ∧ Below (w.heap.size + 1) (w.alloc (.cells (mc m lp lc dp dc) 28)) w' ∧ RW w' (w.heap.size + 1) g (fst2 E (partE 6 m)) (bs ++ rB 6 m) := fun W E bs g h1 h2 h3 => by
    have := e_data m (w.alloc (.cells (mc m lp lc dp dc) 28)) W g E bs (by rw [hs0]; exact h1) (by rw [hs0]; exact h2) h3 dp dc (hF.below hBw0).bytes hF.dnil hdl
    rwa [hs0] at this
  have hl6 := rB_len 6 m hk hll hdl
  have hL1 : ([10] ++ m.key : List Int).length ≤ 10000000 := by simp only [List.length_append, List.length_cons, List.length_nil]; omega
  have hEq : Hid (fst2 (0) (partE 6 m) = rowE m [5, 6]) := by
    show _ = _
    simp only [rowE_cons, show rowE m [] = 0 from rfl, fst2_zero]
    rfl
  obtain ⟨xs, hxs⟩ : ∃ xs : List Int, xs = (10 :: [5, 6].flatMap (fun p => rB p m)) := ⟨_, rfl⟩
  rw [← hxs]
  have hBq : Hid ([10] ++ m.key ++ rB 6 m = xs) := by
    show _ = _
    rw [hxs]
    simp [show rB 5 m = m.key from rfl]
  clear hxs
  have hz' : Hid (rowE m [5, 6] = 0) := hz
  clear hz hs0 hl6
  go_enter Try.func12, Try.ntmps12
  go_wp2
  go_region_law (refine step8 (.tmp 100) (.tmp 102) 25 5 ?h1 ?h2 (w.heap.size + 1) Try.underlying25 info5 (.slice (some ⟨w.heap.size + 1, 0, none⟩) 1 1) [10] ?h3 ?ho (some ⟨w.heap.size, 5, none⟩) 32 32 m.key ?h4 ?h5 ?h6 ?hby ?hlen ?hB ?_; (case h1 => rfl); (case h2 => rfl); (case h3 => rfl); (case h4 => rfl); (case h5 => exact hk); (case h6 => exact (fun h => by cases h)); (case hby => exact hby); (case ho => exact how); (case hlen => simp); (case hB => simp); simp only [List.length_append, hk, List.length_cons, List.length_nil]; intro sp5 cap5 w5 o5 b5 k5; have hr5 := k5 _ _ _ (by decide) (hrw.drewN 1); have hR5 := k5 _ _ _ (by decide) (hR1.drewN 1); have hc50 : w5.cell? ⟨w.heap.size + 1 + 1, 0, none⟩ = some (.slice (some ⟨w.heap.size + 1, 0, none⟩) 1 1) := hr5.cell; have hc51 : w5.cell? ⟨w.heap.size + 1 + 1, 1, none⟩ = some (.int .i64 0) := hr5.cell; have hf5 := hr5.frozen (j := 0); have hK5 : w5.cell? ⟨w.heap.size, 0, none⟩ = some (.int .i64 10) := (hR5.cell.trans mc0).trans (by rw [hkd]); have hB2 : Below (w.heap.size + 1) (w.alloc (.cells (mc m lp lc dp dc) 28)) (w5.setCell ⟨w.heap.size + 1 + 1, 0, none⟩ (.slice sp5 (0 + 1 + 32) cap5)) := (hB1.trans (((Below.refl _ _).drew).trans b5)).setCell (by show w.heap.size + 1 ≤ w.heap.size + 1 + 1; omega) _; have hW2 := RW.stored (by show w.heap.size + 1 ≤ w.heap.size + 1 + 1; omega) hr5 (by simp [hk]) o5; have hc52 := (hR5.cell (j := 37)).trans (mc37 hk))
  go_wp2_with (go_at_call 24; (with_reducible refine Calls.mono (hx6 _ _ _ _ hB2 hW2 hL1) ?_); rintro e w3 ⟨rfl, hB3, hW3⟩; have hR3 := hR0.below hB3 (Nat.lt_succ_self _); have hK3 : w3.cell? ⟨w.heap.size, 0, none⟩ = some (.int .i64 10) := (hR3.cell.trans mc0).trans (by rw [hkd]); obtain ⟨hg9, sp9, cap9, hr9, ho9⟩ := hW3.cast (hEq.out.trans hz'.out) hBq.out; have hc92 : w3.cell? ⟨w.heap.size + 1 + 1, 0, none⟩ = some (.slice sp9 xs.length cap9) := hr9.cell; have hc93 : w3.cell? ⟨w.heap.size + 1 + 1, 1, none⟩ = some (.int .i64 0) := hr9.cell; have hB9 := hB3)
  go_ret2
  exact ⟨sp9, cap9, rfl, ho9.mono (by omega), hBw0.trans (hB9.mono (by omega))⟩

set_option maxRecDepth 20000 in
set_option maxHeartbeats 1000000 in
theorem renc10e (m : M) (hkd : m.kind = 10) (lp dp : Option Addr) (lc dc : Nat) (w : World) (hF : Fld w m lp lc dp dc) (hll : m.list.length ≤ 100000) (hdl : m.data.length ≤ 100000) (F : Int) (hne : F ≠ 0) (hz : rowE m [5, 6] = F) :
    Calls Try.prog 12 #[.agg (mc m lp lc dp dc)] w fun e w' => e = .returned (.tuple #[.slice none 0 0, .int .i64 F]) ∧ Below w.heap.size w w' := by
  have hk := hF.key
  have hR0 : Row (w.alloc (.cells (mc m lp lc dp dc) 28)) w.heap.size 28 (mc m lp lc dp dc) := Row.new w 28 _
  have hs0 : (w.alloc (.cells (mc m lp lc dp dc) 28)).heap.size = w.heap.size + 1 := by simp
  have hK0 : (w.alloc (.cells (mc m lp lc dp dc) 28)).cell? ⟨w.heap.size, 0, none⟩ = some (.int .i64 10) := (hR0.cell.trans mc0).trans (by rw [hkd])
  have hBw0 : Below w.heap.size w (w.alloc (.cells (mc m lp lc dp dc) 28)) := (Below.refl _ _).alloc (Nat.le_refl _) _
  have hB1 : Below (w.heap.size + 1) (w.alloc (.cells (mc m lp lc dp dc) 28)) (((w.alloc (.cells (mc m lp lc dp dc) 28)).alloc (.cells #[.int .u8 10] 5)).alloc (.cells #[.slice (some ⟨w.heap.size + 1, 0, none⟩) 1 1, .int .i64 0] 55)) := ((Below.refl _ _).alloc (by simp) _).alloc (by simp) _
  have hR1 := hR0.below hB1 (by omega)
  have hK1 : (((w.alloc (.cells (mc m lp lc dp dc) 28)).alloc (.cells #[.int .u8 10] 5)).alloc (.cells #[.slice (some ⟨w.heap.size + 1, 0, none⟩) 1 1, .int .i64 0] 55)).cell? ⟨w.heap.size, 0, none⟩ = some (.int .i64 10) := (hR1.cell.trans mc0).trans (by rw [hkd])
  have hrw : Row (((w.alloc (.cells (mc m lp lc dp dc) 28)).alloc (.cells #[.int .u8 10] 5)).alloc (.cells #[.slice (some ⟨w.heap.size + 1, 0, none⟩) 1 1, .int .i64 0] 55)) (w.heap.size + 1 + 1) 55 #[.slice (some ⟨w.heap.size + 1, 0, none⟩) 1 1, .int .i64 0] := Row.newAt _ 55 _ _ (by simp)
  have how : Own8 (((w.alloc (.cells (mc m lp lc dp dc) 28)).alloc (.cells #[.int .u8 10] 5)).alloc (.cells #[.slice (some ⟨w.heap.size + 1, 0, none⟩) 1 1, .int .i64 0] 55)) (w.heap.size + 1) 5 (.slice (some ⟨w.heap.size + 1, 0, none⟩) 1 1) [10] := by
    obtain ⟨_, sp, cap, hr, ho⟩ := RW.new (w.alloc (.cells (mc m lp lc dp dc) 28)) 10
    rw [hs0] at hr ho
    have := hr.symm.trans hrw
    injection this with this
    injection this with this
    injection this with this
    injection this with e1 e2
    injection e1 with e1 e3 e4
    subst e1; subst e4
    exact ho
  have hc90 : (((w.alloc (.cells (mc m lp lc dp dc) 28)).alloc (.cells #[.int .u8 10] 5)).alloc (.cells #[.slice (some ⟨w.heap.size + 1, 0, none⟩) 1 1, .int .i64 0] 55)).cell? ⟨w.heap.size + 1 + 1, 0, none⟩ = some (.slice (some ⟨w.heap.size + 1, 0, none⟩) 1 1) := hrw.cell
  have hc91 : (((w.alloc (.cells (mc m lp lc dp dc) 28)).alloc (.cells #[.int .u8 10] 5)).alloc (.cells #[.slice (some ⟨w.heap.size + 1, 0, none⟩) 1 1, .int .i64 0] 55)).cell? ⟨w.heap.size + 1 + 1, 1, none⟩ = some (.int .i64 0) := hrw.cell
  have hby := key_bytes hR1 hk
  have hx6 : ∀ W E bs g, Below (w.heap.size + 1) (w.alloc (.cells (mc m lp lc dp dc) 28)) W → RW W (w.heap.size + 1) g E bs → bs.length ≤ 10000000 → Calls Try.prog 24 #[.pointer (some ⟨g, 0, none⟩), .slice dp m.data.length dc] W fun e w' => e = .returned (.tuple #[]) ∧ Below (w.heap.size + 1) (w.alloc (.cells (mc m lp lc dp dc) 28)) w' ∧ RW w' (w.heap.size + 1) g (fst2 E (partE 6 m)) (bs ++ rB 6 m) := fun W E bs g h1 h2 h3 => by
    have := e_data m (w.alloc (.cells (mc m lp lc dp dc) 28)) W g E bs (by rw [hs0]; exact h1) (by rw [hs0]; exact h2) h3 dp dc (hF.below hBw0).bytes hF.dnil hdl
    rwa [hs0] at this
  have hl6 := rB_len 6 m hk hll hdl
  have hL1 : ([10] ++ m.key : List Int).length ≤ 10000000 := by simp only [List.length_append, List.length_cons, List.length_nil]; omega
  have hEq : Hid (fst2 (0) (partE 6 m) = rowE m [5, 6]) := by
    show _ = _
    simp only [rowE_cons, show rowE m [] = 0 from rfl, fst2_zero]
    rfl
  obtain ⟨xs, hxs⟩ : ∃ xs : List Int, xs = (10 :: [5, 6].flatMap (fun p => rB p m)) := ⟨_, rfl⟩
  have hBq : Hid ([10] ++ m.key ++ rB 6 m = xs) := by
    show _ = _
    rw [hxs]
    simp [show rB 5 m = m.key from rfl]
  clear hxs
  have hz' : Hid (rowE m [5, 6] = F) := hz
  clear hz hs0 hl6
  have hd : (F == 0) = false := by simpa using hne
  go_enter Try.func12, Try.ntmps12
  go_wp2
  go_region_law (refine step8 (.tmp 100) (.tmp 102) 25 5 ?h1 ?h2 (w.heap.size + 1) Try.underlying25 info5 (.slice (some ⟨w.heap.size + 1, 0, none⟩) 1 1) [10] ?h3 ?ho (some ⟨w.heap.size, 5, none⟩) 32 32 m.key ?h4 ?h5 ?h6 ?hby ?hlen ?hB ?_; (case h1 => rfl); (case h2 => rfl); (case h3 => rfl); (case h4 => rfl); (case h5 => exact hk); (case h6 => exact (fun h => by cases h)); (case hby => exact hby); (case ho => exact how); (case hlen => simp); (case hB => simp); simp only [List.length_append, hk, List.length_cons, List.length_nil]; intro sp5 cap5 w5 o5 b5 k5; have hr5 := k5 _ _ _ (by decide) (hrw.drewN 1); have hR5 := k5 _ _ _ (by decide) (hR1.drewN 1); have hc50 : w5.cell? ⟨w.heap.size + 1 + 1, 0, none⟩ = some (.slice (some ⟨w.heap.size + 1, 0, none⟩) 1 1) := hr5.cell; have hc51 : w5.cell? ⟨w.heap.size + 1 + 1, 1, none⟩ = some (.int .i64 0) := hr5.cell; have hf5 := hr5.frozen (j := 0); have hK5 : w5.cell? ⟨w.heap.size, 0, none⟩ = some (.int .i64 10) := (hR5.cell.trans mc0).trans (by rw [hkd]); have hB2 : Below (w.heap.size + 1) (w.alloc (.cells (mc m lp lc dp dc) 28)) (w5.setCell ⟨w.heap.size + 1 + 1, 0, none⟩ (.slice sp5 (0 + 1 + 32) cap5)) := (hB1.trans (((Below.refl _ _).drew).trans b5)).setCell (by show w.heap.size + 1 ≤ w.heap.size + 1 + 1; omega) _; have hW2 := RW.stored (by show w.heap.size + 1 ≤ w.heap.size + 1 + 1; omega) hr5 (by simp [hk]) o5; have hc52 := (hR5.cell (j := 37)).trans (mc37 hk))
  go_wp2_with (go_at_call 24; (with_reducible refine Calls.mono (hx6 _ _ _ _ hB2 hW2 hL1) ?_); rintro e w3 ⟨rfl, hB3, hW3⟩; have hR3 := hR0.below hB3 (Nat.lt_succ_self _); have hK3 : w3.cell? ⟨w.heap.size, 0, none⟩ = some (.int .i64 10) := (hR3.cell.trans mc0).trans (by rw [hkd]); obtain ⟨hg9, sp9, cap9, hr9, ho9⟩ := hW3.cast (hEq.out.trans hz'.out) hBq.out; have hc92 : w3.cell? ⟨w.heap.size + 1 + 1, 0, none⟩ = some (.slice sp9 xs.length cap9) := hr9.cell; have hc93 : w3.cell? ⟨w.heap.size + 1 + 1, 1, none⟩ = some (.int .i64 F) := hr9.cell; have hB9 := hB3)
  go_region
  go_wp2
  go_ret2
  have h9 := hBw0.trans (hB9.mono (show w.heap.size ≤ w.heap.size + 1 by omega))
  exact ⟨rfl, ⟨h9.os, h9.tape, h9.output, h9.size, h9.block⟩⟩
end

section
open Go.RowKit

set_option maxRecDepth 20000 in
set_option maxHeartbeats 1000000 in
theorem renc12z (m : M) (hkd : m.kind = 12) (lp dp : Option Addr) (lc dc : Nat) (w : World) (hF : Fld w m lp lc dp dc) (hll : m.list.length ≤ 100000) (hdl : m.data.length ≤ 100000) (hz : rowE m [6, 1, 7] = 0) :
    Calls Try.prog 12 #[.agg (mc m lp lc dp dc)] w fun e w' => ∃ sp cap, e = .returned (.tuple #[.slice sp (12 :: [6, 1, 7].flatMap (fun p => rB p m)).length cap, .int .i64 0]) ∧ Own8 w' w.heap.size 5 (.slice sp (12 :: [6, 1, 7].flatMap (fun p => rB p m)).length cap) (12 :: [6, 1, 7].flatMap (fun p => rB p m)) ∧ Below w.heap.size w w' := by
  have hk := hF.key
  have hR0 : Row (w.alloc (.cells (mc m lp lc dp dc) 28)) w.heap.size 28 (mc m lp lc dp dc) := Row.new w 28 _
  have hs0 : (w.alloc (.cells (mc m lp lc dp dc) 28)).heap.size = w.heap.size + 1 := by simp
  have hK0 : (w.alloc (.cells (mc m lp lc dp dc) 28)).cell? ⟨w.heap.size, 0, none⟩ = some (.int .i64 12) := (hR0.cell.trans mc0).trans (by rw [hkd])
  have hBw0 : Below w.heap.size w (w.alloc (.cells (mc m lp lc dp dc) 28)) := (Below.refl _ _).alloc (Nat.le_refl _) _
  have hW1 := RW.new (w.alloc (.cells (mc m lp lc dp dc) 28)) 12
  rw [hs0] at hW1
  have hB1 : Below (w.heap.size + 1) (w.alloc (.cells (mc m lp lc dp dc) 28)) (((w.alloc (.cells (mc m lp lc dp dc) 28)).alloc (.cells #[.int .u8 12] 5)).alloc (.cells #[.slice (some ⟨w.heap.size + 1, 0, none⟩) 1 1, .int .i64 0] 55)) := ((Below.refl _ _).alloc (by simp) _).alloc (by simp) _
  have hR1 := hR0.below hB1 (by omega)
  have hK1 : (((w.alloc (.cells (mc m lp lc dp dc) 28)).alloc (.cells #[.int .u8 12] 5)).alloc (.cells #[.slice (some ⟨w.heap.size + 1, 0, none⟩) 1 1, .int .i64 0] 55)).cell? ⟨w.heap.size, 0, none⟩ = some (.int .i64 12) := (hR1.cell.trans mc0).trans (by rw [hkd])
  have hc1 := (hR1.cell (j := 37)).trans (mc37 hk)
  have hx6 : ∀ W E bs g, Below (w.heap.size + 1) (w.alloc (.cells (mc m lp lc dp dc) 28)) W → RW W (w.heap.size + 1) g E bs → bs.length ≤ 10000000 → Calls Try.prog 24 #[.pointer (some ⟨g, 0, none⟩), .slice dp m.data.length dc] W fun e w' => e = .returned (.tuple #[]) ∧ Below (w.heap.size + 1) (w.alloc (.cells (mc m lp lc dp dc) 28)) w' ∧ RW w' (w.heap.size + 1) g (fst2 E (partE 6 m)) (bs ++ rB 6 m) := fun W E bs g h1 h2 h3 => by
    have := e_data m (w.alloc (.cells (mc m lp lc dp dc) 28)) W g E bs (by rw [hs0]; exact h1) (by rw [hs0]; exact h2) h3 dp dc (hF.below hBw0).bytes hF.dnil hdl
    rwa [hs0] at this
  have hl6 := rB_len 6 m hk hll hdl
  have hL0 : ([12] : List Int).length ≤ 10000000 := by simp only [List.length_cons, List.length_nil]; omega
  have hx1 : ∀ W E bs g, Below (w.heap.size + 1) (w.alloc (.cells (mc m lp lc dp dc) 28)) W → RW W (w.heap.size + 1) g E bs → bs.length ≤ 10000000 → Calls Try.prog 21 #[.pointer (some ⟨g, 0, none⟩), .int .i64 m.node, .int .i64 0] W fun e w' => e = .returned (.tuple #[]) ∧ Below (w.heap.size + 1) (w.alloc (.cells (mc m lp lc dp dc) 28)) w' ∧ RW w' (w.heap.size + 1) g (fst2 E (partE 1 m)) (bs ++ rB 1 m) := fun W E bs g h1 h2 h3 => by
    have := e_node m (w.alloc (.cells (mc m lp lc dp dc) 28)) W g E bs (by rw [hs0]; exact h1) (by rw [hs0]; exact h2) h3
    rwa [hs0] at this
  have hl1 := rB_len 1 m hk hll hdl
  have hL1 : ([12] ++ rB 6 m : List Int).length ≤ 10000000 := by simp only [List.length_append, List.length_cons, List.length_nil]; omega
  have hx7 : ∀ W E bs g, Below (w.heap.size + 1) (w.alloc (.cells (mc m lp lc dp dc) 28)) W → RW W (w.heap.size + 1) g E bs → bs.length ≤ 10000000 → Calls Try.prog 25 #[.pointer (some ⟨g, 0, none⟩), .int .i64 m.lease] W fun e w' => e = .returned (.tuple #[]) ∧ Below (w.heap.size + 1) (w.alloc (.cells (mc m lp lc dp dc) 28)) w' ∧ RW w' (w.heap.size + 1) g (fst2 E (partE 7 m)) (bs ++ rB 7 m) := fun W E bs g h1 h2 h3 => by
    have := e_time m (w.alloc (.cells (mc m lp lc dp dc) 28)) W g E bs (by rw [hs0]; exact h1) (by rw [hs0]; exact h2) h3
    rwa [hs0] at this
  have hl7 := rB_len 7 m hk hll hdl
  have hL2 : ([12] ++ rB 6 m ++ rB 1 m : List Int).length ≤ 10000000 := by simp only [List.length_append, List.length_cons, List.length_nil]; omega
  have hEq : Hid (fst2 (fst2 (fst2 (0) (partE 6 m)) (partE 1 m)) (partE 7 m) = rowE m [6, 1, 7]) := by
    show _ = _
    simp only [rowE_cons, show rowE m [] = 0 from rfl, fst2_zero, fst2_assoc]
    rfl
  obtain ⟨xs, hxs⟩ : ∃ xs : List Int, xs = (12 :: [6, 1, 7].flatMap (fun p => rB p m)) := ⟨_, rfl⟩
  rw [← hxs]
  have hBq : Hid ([12] ++ rB 6 m ++ rB 1 m ++ rB 7 m = xs) := by show _ = _; rw [hxs]; simp
  clear hxs
  have hz' : Hid (rowE m [6, 1, 7] = 0) := hz
  clear hz hs0 hl6 hl1 hl7
  go_enter Try.func12, Try.ntmps12
  go_wp2_with first | (go_at_call 24; (with_reducible refine Calls.mono (hx6 _ _ _ _ hB1 hW1 hL0) ?_); rintro e w2 ⟨rfl, hB2, hW2⟩; have hR2 := hR0.below hB2 (Nat.lt_succ_self _); have hK2 : w2.cell? ⟨w.heap.size, 0, none⟩ = some (.int .i64 12) := (hR2.cell.trans mc0).trans (by rw [hkd]); have hc2 := (hR2.cell (j := 1)).trans mc1) | (go_at_call 21; (with_reducible refine Calls.mono (hx1 _ _ _ _ hB2 hW2 hL1) ?_); rintro e w3 ⟨rfl, hB3, hW3⟩; have hR3 := hR0.below hB3 (Nat.lt_succ_self _); have hK3 : w3.cell? ⟨w.heap.size, 0, none⟩ = some (.int .i64 12) := (hR3.cell.trans mc0).trans (by rw [hkd]); have hc3 := (hR3.cell (j := 38)).trans (mc38 hk)) | (go_at_call 25; (with_reducible refine Calls.mono (hx7 _ _ _ _ hB3 hW3 hL2) ?_); rintro e w4 ⟨rfl, hB4, hW4⟩; have hR4 := hR0.below hB4 (Nat.lt_succ_self _); have hK4 : w4.cell? ⟨w.heap.size, 0, none⟩ = some (.int .i64 12) := (hR4.cell.trans mc0).trans (by rw [hkd]); obtain ⟨hg9, sp9, cap9, hr9, ho9⟩ := hW4.cast (hEq.out.trans hz'.out) hBq.out; have hc90 : w4.cell? ⟨w.heap.size + 1 + 1, 0, none⟩ = some (.slice sp9 xs.length cap9) := hr9.cell; have hc91 : w4.cell? ⟨w.heap.size + 1 + 1, 1, none⟩ = some (.int .i64 0) := hr9.cell; have hB9 := hB4)
  go_ret2
  exact ⟨sp9, cap9, rfl, ho9.mono (by omega), hBw0.trans (hB9.mono (by omega))⟩

set_option maxRecDepth 20000 in
set_option maxHeartbeats 1000000 in
theorem renc12e (m : M) (hkd : m.kind = 12) (lp dp : Option Addr) (lc dc : Nat) (w : World) (hF : Fld w m lp lc dp dc) (hll : m.list.length ≤ 100000) (hdl : m.data.length ≤ 100000) (F : Int) (hne : F ≠ 0) (hz : rowE m [6, 1, 7] = F) :
    Calls Try.prog 12 #[.agg (mc m lp lc dp dc)] w fun e w' => e = .returned (.tuple #[.slice none 0 0, .int .i64 F]) ∧ Below w.heap.size w w' := by
  have hk := hF.key
  have hR0 : Row (w.alloc (.cells (mc m lp lc dp dc) 28)) w.heap.size 28 (mc m lp lc dp dc) := Row.new w 28 _
  have hs0 : (w.alloc (.cells (mc m lp lc dp dc) 28)).heap.size = w.heap.size + 1 := by simp
  have hK0 : (w.alloc (.cells (mc m lp lc dp dc) 28)).cell? ⟨w.heap.size, 0, none⟩ = some (.int .i64 12) := (hR0.cell.trans mc0).trans (by rw [hkd])
  have hBw0 : Below w.heap.size w (w.alloc (.cells (mc m lp lc dp dc) 28)) := (Below.refl _ _).alloc (Nat.le_refl _) _
  have hW1 := RW.new (w.alloc (.cells (mc m lp lc dp dc) 28)) 12
  rw [hs0] at hW1
  have hB1 : Below (w.heap.size + 1) (w.alloc (.cells (mc m lp lc dp dc) 28)) (((w.alloc (.cells (mc m lp lc dp dc) 28)).alloc (.cells #[.int .u8 12] 5)).alloc (.cells #[.slice (some ⟨w.heap.size + 1, 0, none⟩) 1 1, .int .i64 0] 55)) := ((Below.refl _ _).alloc (by simp) _).alloc (by simp) _
  have hR1 := hR0.below hB1 (by omega)
  have hK1 : (((w.alloc (.cells (mc m lp lc dp dc) 28)).alloc (.cells #[.int .u8 12] 5)).alloc (.cells #[.slice (some ⟨w.heap.size + 1, 0, none⟩) 1 1, .int .i64 0] 55)).cell? ⟨w.heap.size, 0, none⟩ = some (.int .i64 12) := (hR1.cell.trans mc0).trans (by rw [hkd])
  have hc1 := (hR1.cell (j := 37)).trans (mc37 hk)
  have hx6 : ∀ W E bs g, Below (w.heap.size + 1) (w.alloc (.cells (mc m lp lc dp dc) 28)) W → RW W (w.heap.size + 1) g E bs → bs.length ≤ 10000000 → Calls Try.prog 24 #[.pointer (some ⟨g, 0, none⟩), .slice dp m.data.length dc] W fun e w' => e = .returned (.tuple #[]) ∧ Below (w.heap.size + 1) (w.alloc (.cells (mc m lp lc dp dc) 28)) w' ∧ RW w' (w.heap.size + 1) g (fst2 E (partE 6 m)) (bs ++ rB 6 m) := fun W E bs g h1 h2 h3 => by
    have := e_data m (w.alloc (.cells (mc m lp lc dp dc) 28)) W g E bs (by rw [hs0]; exact h1) (by rw [hs0]; exact h2) h3 dp dc (hF.below hBw0).bytes hF.dnil hdl
    rwa [hs0] at this
  have hl6 := rB_len 6 m hk hll hdl
  have hL0 : ([12] : List Int).length ≤ 10000000 := by simp only [List.length_cons, List.length_nil]; omega
  have hx1 : ∀ W E bs g, Below (w.heap.size + 1) (w.alloc (.cells (mc m lp lc dp dc) 28)) W → RW W (w.heap.size + 1) g E bs → bs.length ≤ 10000000 → Calls Try.prog 21 #[.pointer (some ⟨g, 0, none⟩), .int .i64 m.node, .int .i64 0] W fun e w' => e = .returned (.tuple #[]) ∧ Below (w.heap.size + 1) (w.alloc (.cells (mc m lp lc dp dc) 28)) w' ∧ RW w' (w.heap.size + 1) g (fst2 E (partE 1 m)) (bs ++ rB 1 m) := fun W E bs g h1 h2 h3 => by
    have := e_node m (w.alloc (.cells (mc m lp lc dp dc) 28)) W g E bs (by rw [hs0]; exact h1) (by rw [hs0]; exact h2) h3
    rwa [hs0] at this
  have hl1 := rB_len 1 m hk hll hdl
  have hL1 : ([12] ++ rB 6 m : List Int).length ≤ 10000000 := by simp only [List.length_append, List.length_cons, List.length_nil]; omega
  have hx7 : ∀ W E bs g, Below (w.heap.size + 1) (w.alloc (.cells (mc m lp lc dp dc) 28)) W → RW W (w.heap.size + 1) g E bs → bs.length ≤ 10000000 → Calls Try.prog 25 #[.pointer (some ⟨g, 0, none⟩), .int .i64 m.lease] W fun e w' => e = .returned (.tuple #[]) ∧ Below (w.heap.size + 1) (w.alloc (.cells (mc m lp lc dp dc) 28)) w' ∧ RW w' (w.heap.size + 1) g (fst2 E (partE 7 m)) (bs ++ rB 7 m) := fun W E bs g h1 h2 h3 => by
    have := e_time m (w.alloc (.cells (mc m lp lc dp dc) 28)) W g E bs (by rw [hs0]; exact h1) (by rw [hs0]; exact h2) h3
    rwa [hs0] at this
  have hl7 := rB_len 7 m hk hll hdl
  have hL2 : ([12] ++ rB 6 m ++ rB 1 m : List Int).length ≤ 10000000 := by simp only [List.length_append, List.length_cons, List.length_nil]; omega
  have hEq : Hid (fst2 (fst2 (fst2 (0) (partE 6 m)) (partE 1 m)) (partE 7 m) = rowE m [6, 1, 7]) := by
    show _ = _
    simp only [rowE_cons, show rowE m [] = 0 from rfl, fst2_zero, fst2_assoc]
    rfl
  obtain ⟨xs, hxs⟩ : ∃ xs : List Int, xs = (12 :: [6, 1, 7].flatMap (fun p => rB p m)) := ⟨_, rfl⟩
  have hBq : Hid ([12] ++ rB 6 m ++ rB 1 m ++ rB 7 m = xs) := by show _ = _; rw [hxs]; simp
  clear hxs
  have hz' : Hid (rowE m [6, 1, 7] = F) := hz
  clear hz hs0 hl6 hl1 hl7
  have hd : (F == 0) = false := by simpa using hne
  go_enter Try.func12, Try.ntmps12
  go_wp2_with first | (go_at_call 24; (with_reducible refine Calls.mono (hx6 _ _ _ _ hB1 hW1 hL0) ?_); rintro e w2 ⟨rfl, hB2, hW2⟩; have hR2 := hR0.below hB2 (Nat.lt_succ_self _); have hK2 : w2.cell? ⟨w.heap.size, 0, none⟩ = some (.int .i64 12) := (hR2.cell.trans mc0).trans (by rw [hkd]); have hc2 := (hR2.cell (j := 1)).trans mc1) | (go_at_call 21; (with_reducible refine Calls.mono (hx1 _ _ _ _ hB2 hW2 hL1) ?_); rintro e w3 ⟨rfl, hB3, hW3⟩; have hR3 := hR0.below hB3 (Nat.lt_succ_self _); have hK3 : w3.cell? ⟨w.heap.size, 0, none⟩ = some (.int .i64 12) := (hR3.cell.trans mc0).trans (by rw [hkd]); have hc3 := (hR3.cell (j := 38)).trans (mc38 hk)) | (go_at_call 25; (with_reducible refine Calls.mono (hx7 _ _ _ _ hB3 hW3 hL2) ?_); rintro e w4 ⟨rfl, hB4, hW4⟩; have hR4 := hR0.below hB4 (Nat.lt_succ_self _); have hK4 : w4.cell? ⟨w.heap.size, 0, none⟩ = some (.int .i64 12) := (hR4.cell.trans mc0).trans (by rw [hkd]); obtain ⟨hg9, sp9, cap9, hr9, ho9⟩ := hW4.cast (hEq.out.trans hz'.out) hBq.out; have hc90 : w4.cell? ⟨w.heap.size + 1 + 1, 0, none⟩ = some (.slice sp9 xs.length cap9) := hr9.cell; have hc91 : w4.cell? ⟨w.heap.size + 1 + 1, 1, none⟩ = some (.int .i64 F) := hr9.cell; have hB9 := hB4)
  go_region
  go_wp2
  go_ret2
  have h9 := hBw0.trans (hB9.mono (show w.heap.size ≤ w.heap.size + 1 by omega))
  exact ⟨rfl, ⟨h9.os, h9.tape, h9.output, h9.size, h9.block⟩⟩
end

end Go.Proofs.Ytcdmjjlbeifgjaa
