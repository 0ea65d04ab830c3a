/- Parts of bytes read in lms: a number, a hash; a signature's size. No old memory turns. -/
import Derived.Test.YtoebnkepeledmaaDoorGj
import Derived.Laws.BitsAllLaws
namespace Go.Proofs.YtoebnkepeledmaaDoor
open Go Go.RowKit

/-- Four bytes as a number. -/
def num4 (l : List Int) (at_ : Nat) : Int := gi l at_ * 16777216 + gi l (at_ + 1) * 65536 + gi l (at_ + 2) * 256 + gi l (at_ + 3)
theorem or_add (a b : Int) (n : Nat) (ha : 0 ≤ a) (hb : 0 ≤ b) (hbn : b < 2 ^ n) (hab : a * 2 ^ n + b < 4294967296) : or32 (a * 2 ^ n) b = a * 2 ^ n + b := by
  have hp : (0 : Int) < 2 ^ n := Int.pow_pos (by decide)
  have h0 : 0 ≤ a * 2 ^ n := Int.mul_nonneg ha (Int.le_of_lt hp)
  obtain ⟨x, rfl⟩ : ∃ x : Nat, a = x := ⟨a.toNat, by omega⟩
  obtain ⟨y, rfl⟩ : ∃ y : Nat, b = y := ⟨b.toNat, by omega⟩
  have e1 : ((x : Int) * 2 ^ n) = ((x * 2 ^ n : Nat) : Int) := by push_cast; rfl
  have e2 : y < 2 ^ n := by
    have : ((y : Nat) : Int) < ((2 ^ n : Nat) : Int) := by push_cast; exact hbn
    omega
  unfold or32
  rw [e1] at hab h0 ⊢
  rw [u32_or_nat _ _ (by omega) (by omega), ← Nat.shiftLeft_eq, ← Nat.shiftLeft_add_eq_or_of_lt e2]
  push_cast
  rfl
theorem word_val (a b c d : Int) (ha : 0 ≤ a ∧ a < 256) (hb : 0 ≤ b ∧ b < 256) (hc : 0 ≤ c ∧ c < 256) (hd : 0 ≤ d ∧ d < 256) : word a b c d = a * 16777216 + b * 65536 + c * 256 + d := by
  unfold word
  have e1 : a % 4294967296 * 16777216 % 4294967296 = a * 2 ^ 24 := by rw [show (2 : Int) ^ 24 = 16777216 by decide]; omega
  have e2 : b % 4294967296 * 65536 % 4294967296 = b * 65536 := by omega
  have e3 : c % 4294967296 * 256 % 4294967296 = c * 256 := by omega
  have e4 : d % 4294967296 = d := by omega
  rw [e1, e2, e3, e4, or_add a (b * 65536) 24 ha.1 (by omega) (by rw [show (2 : Int) ^ 24 = 16777216 by decide]; omega) (by rw [show (2 : Int) ^ 24 = 16777216 by decide]; omega)]
  have f1 : a * 2 ^ 24 + b * 65536 = (a * 256 + b) * 2 ^ 16 := by rw [show (2 : Int) ^ 24 = 16777216 by decide, show (2 : Int) ^ 16 = 65536 by decide]; omega
  rw [f1, or_add (a * 256 + b) (c * 256) 16 (by omega) (by omega) (by rw [show (2 : Int) ^ 16 = 65536 by decide]; omega) (by rw [show (2 : Int) ^ 16 = 65536 by decide]; omega)]
  have f2 : (a * 256 + b) * 2 ^ 16 + c * 256 = (a * 65536 + b * 256 + c) * 2 ^ 8 := by rw [show (2 : Int) ^ 16 = 65536 by decide, show (2 : Int) ^ 8 = 256 by decide]; omega
  rw [f2, or_add (a * 65536 + b * 256 + c) d 8 (by omega) hd.1 (by rw [show (2 : Int) ^ 8 = 256 by decide]; omega) (by rw [show (2 : Int) ^ 8 = 256 by decide]; omega), show (2 : Int) ^ 8 = 256 by decide]
  omega

set_option maxRecDepth 20000 in
set_option maxHeartbeats 1000000 in
theorem sigSize_any (h : Int) (w : World) (h1 : 0 ≤ h ∧ h ≤ 1000) :
    Calls Tryd.prog 50 #[.int .i64 h] w fun e w' => e = .returned (.int .i64 (4300 + h * 32)) ∧ w' = w := by
  go_enter Tryd.func50, Tryd.ntmps50
  go_wp2
  go_ret
  exact ⟨rfl, rfl⟩

set_option maxRecDepth 20000 in
set_option maxHeartbeats 1000000 in
theorem lhashAt_any (sig : List Int) (sp : Option Addr) (len cap k : Nat) (w : World) (hl : sig.length = len) (hcap : len ≤ cap) (hk : k + 32 ≤ len) (hby : Bytes w sp sig) :
    Calls Tryd.prog 68 #[.slice sp len cap, .int .i64 (k : Int)] w fun e w' => e = .returned (.agg (v8 (cutL sig k))) ∧ Below w.heap.size w w' := by
  obtain ⟨b, o, rfl, _⟩ := hby (by omega)
  have hcl : (cutL sig k).length = 32 := by unfold cutL; simp; omega
  have hsrc : Bytes w (some ⟨b, o + k, none⟩) (cutL sig k) := (Bytes.drop hby k).take 32
  generalize cutL sig k = X at *
  have k1 : (k : Int) ≤ (len : Int) := by omega
  have k2 : (0 : Int) ≤ (k : Int) := by omega
  have k3 : ¬ cap = k := by omega
  go_enter Tryd.func68, Tryd.ntmps68
  go_upto_region 2 with fail
  have r0 : Row (World.alloc (World.alloc w (.cells (v8 (List.replicate 32 0)) 24)) (.cells (v8 (List.replicate 32 0)) 24)) w.heap.size 24 (v8 (List.replicate 32 0)) := (Row.new _ _ _).alloc _
  have r1 : Row (World.alloc (World.alloc w (.cells (v8 (List.replicate 32 0)) 24)) (.cells (v8 (List.replicate 32 0)) 24)) (w.heap.size + 1) 24 (v8 (List.replicate 32 0)) := Row.newAt _ _ _ _ (by simp)
  have b1 : Below w.heap.size w (World.alloc (World.alloc w (.cells (v8 (List.replicate 32 0)) 24)) (.cells (v8 (List.replicate 32 0)) 24)) := ((Below.refl _ _).alloc (Nat.le_refl _) _).alloc (by simp) _
  change Code.wp _ _ _ _ ((World.alloc (World.alloc w (.cells (v8 (List.replicate 32 0)) 24)) (.cells (v8 (List.replicate 32 0)) 24)))
  generalize (World.alloc (World.alloc w (.cells (v8 (List.replicate 32 0)) 24)) (.cells (v8 (List.replicate 32 0)) 24)) = w1 at r0 r1 b1 ⊢
  have hs1 := hsrc.below b1
  refine wp_region_quiet_tail 4 (by kernel_rfl) (by kernel_rfl) ?_
  simp only [List.take_succ_cons, List.take_zero, List.drop_succ_cons, List.drop_zero]
  repeat (go_big_quiet_step (fail))
  refine wpQuiet_nil ?_
  rintro _ ⟨nq, rfl⟩
  refine copy8 (w := w1.drewN nq) (.tmp 6) (.tmp 9) 28 28 (by rfl) (by rfl) 5 Tryd.underlying28 (by kernel_rfl) (some ⟨w.heap.size + 1, 0, none⟩) (some ⟨b, o + k, none⟩) 32 32 (len - k) (cap - k) (by rfl) (by rfl) (w.heap.size + 1) (0) (List.replicate 32 0) 24 (r1.drewN nq) X (by rw [hcl]; omega) (fun _ => rfl) (hs1.drewN nq) (by simp; omega) ?_
  simp only [Act.put, List.setIfInBounds_toArray, List.set_cons_succ, List.set_cons_zero]
  rw [show spl (List.replicate 32 0) 0 X = X by rw [spl_zero, hcl]; simp]
  have q0 := (r0.drewN nq).setRowOther (g := w.heap.size + 1) (by omega) (v8 X)
  have q1 := (r1.drewN nq).setRow (v8 X)
  have qb := below_setRow (g := w.heap.size + 1) (below_drewN b1 nq) (by omega) (v8 X)
  generalize (w1.drewN nq).setRow (w.heap.size + 1) (v8 X) = w2 at q0 q1 qb ⊢
  go_wp2_with (first | (refine wpList_load_row (by rfl) 24 (.tmp 5) (by rfl) (w.heap.size + 1) (by rfl) 24 (v8 X) (0, 0) _ q1 Tryd.underlying24 rfl (id_info hcl) ?_) | (refine store_row0 24 (.tmp 4) (.tmp 11) (by rfl) (by rfl) (by rfl) w.heap.size (v8 X) (by rfl) (by rfl) 24 _ q0 (id_info hcl) (by rw [v8_size, v8_size, hcl]; simp) (v8_one _) ?_))
  exact bodyPost_ret (results_cell_row Tryd.results68 _ _ (w.heap.size) 24 (v8 X) (0, 0) _ rfl (q0.setRow _) Tryd.underlying24 rfl (id_info hcl)) rfl ⟨rfl, below_setRow qb (Nat.le_refl _) _⟩


set_option maxRecDepth 20000 in
set_option maxHeartbeats 1000000 in
theorem numberAt_any (sig : List Int) (sp : Option Addr) (len cap k : Nat) (w : World) (hl : sig.length = len) (hcap : len ≤ cap) (hk : k + 4 ≤ len) (hby : Bytes w sp sig) (hr : ∀ x ∈ sig, 0 ≤ x ∧ x < 256) :
    Calls Tryd.prog 53 #[.slice sp len cap, .int .i64 (k : Int)] w fun e w' => e = .returned (.int .u32 (num4 sig k)) ∧ Below w.heap.size w w' := by
  obtain ⟨b, o, rfl, _⟩ := hby (by omega)
  have hcl : ((sig.drop k).take 4).length = 4 := by simp; omega
  have hsrc : Bytes w (some ⟨b, o + k, none⟩) ((sig.drop k).take 4) := (Bytes.drop hby k).take 4
  have hgi : ∀ j, j < 4 → gi ((sig.drop k).take 4) j = gi sig (k + j) := fun j hj => by
    unfold gi
    rw [List.getD_eq_getElem?_getD, List.getD_eq_getElem?_getD, List.getElem?_take_of_lt hj, List.getElem?_drop]
  have hrg : ∀ j, j < len → 0 ≤ gi sig j ∧ gi sig j < 256 := fun j hj => by
    have : gi sig j = sig[j]'(by omega) := by simp [gi, List.getD, List.getElem?_eq_getElem (show j < sig.length by omega)]
    rw [this]; exact hr _ (List.getElem_mem _)
  have hw := word_val (gi sig k) (gi sig (k + 1)) (gi sig (k + 2)) (gi sig (k + 3)) (hrg _ (by omega)) (hrg _ (by omega)) (hrg _ (by omega)) (hrg _ (by omega))
  have hnum : num4 sig k = word (gi ((sig.drop k).take 4) 0) (gi ((sig.drop k).take 4) 1) (gi ((sig.drop k).take 4) 2) (gi ((sig.drop k).take 4) 3) := by
    rw [hgi 0 (by omega), hgi 1 (by omega), hgi 2 (by omega), hgi 3 (by omega), Nat.add_zero, hw]; rfl
  rw [hnum]
  clear hw hnum hgi hrg hr
  generalize (sig.drop k).take 4 = X at *
  have k1 : (k : Int) ≤ (len : Int) := by omega
  have k2 : (0 : Int) ≤ (k : Int) := by omega
  have k3 : ¬ cap = k := by omega
  go_enter Tryd.func53, Tryd.ntmps53
  go_upto_region 2 with fail
  have r0 : Row (World.alloc w (.cells (v8 (List.replicate 4 0)) 66)) w.heap.size 66 (v8 (List.replicate 4 0)) := Row.new _ _ _
  have b1 : Below w.heap.size w (World.alloc w (.cells (v8 (List.replicate 4 0)) 66)) := (Below.refl _ _).alloc (Nat.le_refl _) _
  change Code.wp _ _ _ _ ((World.alloc w (.cells (v8 (List.replicate 4 0)) 66)))
  generalize (World.alloc w (.cells (v8 (List.replicate 4 0)) 66)) = w1 at r0 b1 ⊢
  have hs1 := hsrc.below b1
  refine wp_region_quiet_tail 4 (by kernel_rfl) (by kernel_rfl) ?_
  simp only [List.take_succ_cons, List.take_zero, List.drop_succ_cons, List.drop_zero]
  repeat (go_big_quiet_step (fail))
  refine wpQuiet_nil ?_
  rintro _ ⟨nq, rfl⟩
  refine copy8 (w := w1.drewN nq) (.tmp 6) (.tmp 9) 28 28 (by rfl) (by rfl) 5 Tryd.underlying28 (by kernel_rfl) (some ⟨w.heap.size, 0, none⟩) (some ⟨b, o + k, none⟩) 4 4 (len - k) (cap - k) (by rfl) (by rfl) (w.heap.size) (0) (List.replicate 4 0) 66 (r0.drewN nq) X (by rw [hcl]; omega) (fun _ => rfl) (hs1.drewN nq) (by simp; omega) ?_
  simp only [Act.put, List.setIfInBounds_toArray, List.set_cons_succ, List.set_cons_zero]
  rw [show spl (List.replicate 4 0) 0 X = X by rw [spl_zero, hcl]; simp]
  have q0 := (r0.drewN nq).setRow (v8 X)
  have qb := below_setRow (g := w.heap.size) (below_drewN b1 nq) (Nat.le_refl _) (v8 X)
  generalize (w1.drewN nq).setRow w.heap.size (v8 X) = w2 at q0 qb ⊢
  have c0 : w2.cell? ⟨w.heap.size, 0, none⟩ = some _ := q0.cell8 (by omega)
  have c1 : w2.cell? ⟨w.heap.size, 1, none⟩ = some _ := q0.cell8 (by omega)
  have c2 : w2.cell? ⟨w.heap.size, 2, none⟩ = some _ := q0.cell8 (by omega)
  have c3 : w2.cell? ⟨w.heap.size, 3, none⟩ = some _ := q0.cell8 (by omega)
  go_wp2
  go_ret
  exact ⟨rfl, qb⟩
end Go.Proofs.YtoebnkepeledmaaDoor
