/- ident.Add: what it makes of an id and k, as a number; it turns no old memory. -/
import Derived.Test.YtkmhnpkkkhglpaaNear
namespace Go.Proofs.Ytkmhnpkkkhglpaa
open Go.RowKit

def addL (a : List Int) (k : Nat) : List Int := ofNum 32 (num a + 2 ^ k)
theorem id_add (a : List Int) (k : Nat) : Id32 (addL a k) := id_ofNum _
theorem num_add (a : List Int) (k : Nat) : num (addL a k) = (num a + 2 ^ k) % 256 ^ 32 := num_ofNum 32 _
theorem addL_of {a l : List Int} {k : Nat} {c : Int} (hl : Id32 l) (h : num l + c * 256 ^ 32 = num a + 2 ^ k) : l = addL a k := by
  rw [← hl.inj (id_add a k), num_add, ← h, Int.add_mul_emod_self_right]
  have := hl.bound
  exact (Int.emod_eq_of_lt this.1 this.2).symm
theorem two_pow (k : Nat) : (2 : Int) ^ k = 2 ^ (k % 8) * 256 ^ (k / 8) := by
  have h : (256 : Int) = 2 ^ 8 := by decide
  rw [h, ← Int.pow_mul, ← Int.pow_add]
  congr 1; omega
theorem low_pow (k : Nat) : (1 : Int) ≤ 2 ^ (k % 8) ∧ (2 : Int) ^ (k % 8) ≤ 128 := by
  obtain h | h | h | h | h | h | h | h : k % 8 = 0 ∨ k % 8 = 1 ∨ k % 8 = 2 ∨ k % 8 = 3 ∨ k % 8 = 4 ∨ k % 8 = 5 ∨ k % 8 = 6 ∨ k % 8 = 7 := by omega
  all_goals rw [h]; decide
/-- One byte of the sum: what is carried on. -/
theorem carry_step {l : List Int} (hl : Id32 l) {p : Nat} (hp : p < 32) {c s : Int} (hs : s = gi l p + c) :
    num (l.set p (s % 256)) + (s / 256) * 256 ^ (32 - p) = num l + c * 256 ^ (31 - p) := by
  rw [num_set l p _ (by rw [hl.1]; exact hp), hl.1, show 32 - p = (31 - p) + 1 by omega, pw_succ, show 32 - 1 - p = 31 - p by omega]
  generalize (256 : Int) ^ (31 - p) = B
  have h1 : s % 256 + 256 * (s / 256) = s := Int.emod_add_mul_ediv s 256
  have h2 : (s % 256 - gi l p) * B + s / 256 * (256 * B) = (s % 256 + 256 * (s / 256) - gi l p) * B := by
    rw [show s / 256 * (256 * B) = (256 * (s / 256)) * B by rw [← Int.mul_assoc, Int.mul_comm (s / 256) 256]]
    rw [← Int.add_mul]; congr 1; omega
  rw [h1] at h2
  rw [Int.add_assoc, h2, hs]; congr 2; omega

theorem results_row_tmp {P : Program} {fn : Func} {p u : Tmp} {ty : TypeId} (h : fn.results = #[.cell p ty, .tmp u]) (tmps : Array Value) (w : World) (g : Nat) (t : TypeId) (cs : Array Value) (d : TypeDesc)
    (hp : tmps.getD p undef = .pointer (some ⟨g, 0, none⟩)) (hg : Row w g t cs)
    (hu : P.underlying ty = some d) (hd : (match d with | .struct _ | .array _ _ => true | _ => false) = true) (hi : (P.info? ty).map (·.size) = some cs.size) :
    (results fn tmps).run P w = .ok (.tuple #[.agg cs, tmps.getD u undef]) w := by
  rw [results_cell_tmp h, hp]
  simp [asAddr, run_loadVar_row w g t ty cs (0, 0) d hg hu hd hi]

set_option maxRecDepth 20000 in
set_option maxHeartbeats 1000000 in
theorem add_any (a : List Int) (k : Nat) (w : World) (ha : Id32 a) (hk : k < 256) :
    Calls Try.prog 16 #[.agg (v8 a), .int .i64 k] w fun e w' => e = .returned (.tuple #[.agg (v8 (addL a k)), .int .i64 0]) ∧ Below w.heap.size w w' := by
  have b0 : Below w.heap.size w ((w.alloc (.cells (v8 a) 23)).alloc (.cells (v8 zero32) 23)) := ((Below.refl _ _).alloc (Nat.le_refl _) _).alloc (by simp) _
  have ra : Row ((w.alloc (.cells (v8 a) 23)).alloc (.cells (v8 zero32) 23)) w.heap.size 23 (v8 a) := (Row.new w 23 (v8 a)).alloc _
  have rz : Row ((w.alloc (.cells (v8 a) 23)).alloc (.cells (v8 zero32) 23)) (w.heap.size + 1) 23 (v8 zero32) := Row.newAt _ _ _ _ (by simp)
  have q1 : decide ((k : Int) < 0) = false := by simp
  have q2 : decide ((256 : Int) ≤ (k : Int)) = false := by simp; omega
  go_enter Try.func16, Try.ntmps16
  go_wp2
  change Code.wp _ _ _ _ ((w.alloc (.cells (v8 a) 23)).alloc (.cells (v8 zero32) 23))
  generalize (w.alloc (.cells (v8 a) 23)).alloc (.cells (v8 zero32) 23) = w0 at b0 ra rz ⊢
  go_loopw [6, 7] (fun c i wr => ∃ (m : Nat) (iv cv : Int) (l : List Int), m ≤ 32 ∧ i = .int .i64 iv ∧ iv = m - 1 ∧ c = .int .i64 cv ∧ 0 ≤ cv ∧ cv ≤ 255 ∧ Id32 l ∧ num l + cv * 256 ^ (32 - m) = num a + 2 ^ k ∧ Row wr w.heap.size 23 (v8 l) ∧ Row wr (w.heap.size + 1) 23 (v8 zero32) ∧ Below w.heap.size w wr) (fun _ i _ => (intOf i + 1).toNat)
  case atStart =>
    have hw : wrap64 (2 ^ (k % 8)) = 2 ^ (k % 8) := by
      have := low_pow k
      exact IntWalk.wrap64_in _ (by omega)
    have hlo := low_pow k
    refine ⟨32 - k / 8, _, _, a, by omega, rfl, by omega, rfl, ?_, ?_, ha, ?_, ra, rz, b0⟩
    · rw [hw]; omega
    · rw [hw]; omega
    · rw [hw, show 32 - (32 - k / 8) = k / 8 by omega, ← two_pow]
  case round =>
    obtain ⟨m, iv, cv, l, hm, rfl, hiv, rfl, c0, c1, hl, hnum, r1, r2, hb⟩ := hrel
    by_cases hm0 : m = 0
    · subst hm0
      obtain rfl : iv = -1 := by omega
      have e := addL_of hl (by simpa using hnum)
      subst e
      clear hnum hiv hm
      have sl := sz23 hl
      have hz : (v8 zero32).size = (v8 (addL a k)).size := by rw [v8_size, v8_size, hl.1, id_zero.1]
      go_wp2_with (first
        | (refine wpList_load_row (by rfl) 23 (.tmp 2) (by rfl) w.heap.size (by rfl) 23 (v8 (addL a k)) (0, 0) _ r1 Try.underlying23 rfl sl ?_)
        | (refine store_row0 23 (.tmp 4) (.tmp 38) (by rfl) (by rfl) (by rfl) (w.heap.size + 1) (v8 (addL a k)) (by rfl) (by rfl) 23 _ r2 sl hz (v8_one _) ?_))
      exact bodyPost_ret (results_row_tmp Try.results16 _ _ (w.heap.size + 1) 23 (v8 (addL a k)) _ rfl (r2.setRow _) Try.underlying23 rfl sl) rfl ⟨rfl, below_setRow hb (by omega) _⟩
    · obtain ⟨p, rfl⟩ : ∃ p, m = p + 1 := ⟨m - 1, by omega⟩
      obtain rfl : iv = p := by omega
      clear hiv hm0
      have gp := hl.2.gi p
      have hv : wr.cell? ⟨w.heap.size, p, none⟩ = some (.int .u8 (gi l p)) := r1.cell8 (by rw [hl.1]; omega)
      have hf : wr.frozen? ⟨w.heap.size, p, none⟩ = false := r1.frozen
      have hst := carry_step hl (p := p) (by omega) (c := cv) (s := gi l p + cv) rfl
      rw [show 32 - (p + 1) = 31 - p by omega] at hnum
      have hst : Hid _ := show num (l.set p ((gi l p + cv) % 256)) + (gi l p + cv) / 256 * 256 ^ (32 - p) = num a + 2 ^ k from hst.trans hnum
      clear hnum
      go_wp2
      go_roundw
      case rel => exact ⟨p, _, _, l.set p ((gi l p + cv) % 256), by omega, rfl, by omega, rfl, by omega, by omega, hl.set _ (by omega), hst.out, r1.set8 p _, r2.setOther (by simp) _, hb.setCell (Nat.le_refl _) _⟩
      case measure => simp [intOf]
end Go.Proofs.Ytkmhnpkkkhglpaa
