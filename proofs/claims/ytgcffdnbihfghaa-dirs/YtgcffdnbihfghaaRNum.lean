/- The reference's get and id: four bytes' number, thirty-two bytes. No old memory turns. -/
import Derived.Test.YtgcffdnbihfghaaPut
namespace Go.Proofs.Ytgcffdnbihfghaa
open Go Go.RowKit
theorem or_more (k : Nat) (P : Nat) (hP : P = 2 ^ k) (m x : Int) (h0 : 0 ≤ m) (h1 : m * (P : Int) < 9223372036854775808) (h2 : 0 ≤ x) (h3 : x < (P : Int)) (hk : k ≤ 62) : bits .or .i64 (m * (P : Int)) x = m * (P : Int) + x := by
  obtain ⟨a, rfl⟩ := Int.eq_ofNat_of_zero_le h0
  obtain ⟨b, rfl⟩ := Int.eq_ofNat_of_zero_le h2
  have hab : ((a : Int) * (P : Int)) = ((a * P : Nat) : Int) := by simp
  rw [hab] at *
  have ha : a * P < 9223372036854775808 := by omega
  have hbig : 2 ^ k ≤ 4611686018427387904 := by
    have : 2 ^ k ≤ 2 ^ 62 := Nat.pow_le_pow_right (by decide) hk
    omega
  show IntKind.i64.wrap ((BitVec.ofInt 64 ((a * P : Nat) : Int) ||| BitVec.ofInt 64 (b : Int)).toNat : Int) = _
  have e1 : (BitVec.ofInt 64 ((a * P : Nat) : Int)).toNat = a * P := by
    rw [BitVec.ofInt_natCast, BitVec.toNat_ofNat]; exact Nat.mod_eq_of_lt (by omega)
  have e2 : (BitVec.ofInt 64 (b : Int)).toNat = b := by
    rw [BitVec.ofInt_natCast, BitVec.toNat_ofNat]; exact Nat.mod_eq_of_lt (by omega)
  rw [BitVec.toNat_or, e1, e2]
  have h4 := Nat.two_pow_add_eq_or_of_lt (i := k) (b := b) (by omega) a
  rw [← hP, Nat.mul_comm P a] at h4
  have h5 : a * P ||| b < 2 ^ 63 := Nat.or_lt_two_pow (by omega) (by omega)
  rw [← h4] at h5 ⊢
  rw [IntKind.wrap_i64]
  omega
theorem beN_four (bs : List Int) : beN bs 4 = gi bs 0 * 16777216 + gi bs 1 * 65536 + gi bs 2 * 256 + gi bs 3 := by
  show (((0 * 256 + gi bs 0) * 256 + gi bs 1) * 256 + gi bs 2) * 256 + gi bs 3 = _
  omega
set_option maxRecDepth 20000 in
set_option maxHeartbeats 1000000 in
theorem get_any (bs : List Int) (b o : Nat) (len cap : Nat) (w : World) (hy : Bytes w (some ⟨b, o, none⟩) bs) (hb : By bs) (hl : bs.length = 4) (h4 : 4 ≤ len) :
    Calls Try.prog 37 #[.slice (some ⟨b, o, none⟩) len cap] w fun e w' => e = .returned (.int .i64 (beN bs 4)) ∧ Below w.heap.size w w' := by
  obtain ⟨b', o', e, hcl⟩ := hy (by omega)
  cases e
  have c0 : w.cell? ⟨b, o, none⟩ = _ := hcl 0 (by omega)
  have c1 := hcl 1 (by omega)
  have c2 := hcl 2 (by omega)
  have c3 := hcl 3 (by omega)
  have q0 := gi_by hb 0 (by omega)
  have q1 := gi_by hb 1 (by omega)
  have q2 := gi_by hb 2 (by omega)
  have q3 := gi_by hb 3 (by omega)
  rw [beN_four]
  generalize gi bs 0 = x0 at *
  generalize gi bs 1 = x1 at *
  generalize gi bs 2 = x2 at *
  generalize gi bs 3 = x3 at *
  have f1 : bits .or .i64 (x0 * 16777216) (x1 * 65536) = x0 * 16777216 + x1 * 65536 := or_more 24 16777216 rfl x0 _ q0.1 (by omega) (by omega) (by omega) (by omega)
  have f2 : bits .or .i64 (x0 * 16777216 + x1 * 65536) (x2 * 256) = x0 * 16777216 + x1 * 65536 + x2 * 256 := by
    have := or_more 16 65536 rfl (x0 * 256 + x1) (x2 * 256) (by omega) (by omega) (by omega) (by omega) (by omega)
    rw [show (x0 * 256 + x1) * ((65536 : Nat) : Int) = x0 * 16777216 + x1 * 65536 by omega] at this; exact this
  have f3 : bits .or .i64 (x0 * 16777216 + x1 * 65536 + x2 * 256) x3 = x0 * 16777216 + x1 * 65536 + x2 * 256 + x3 := by
    have := or_more 8 256 rfl (x0 * 65536 + x1 * 256 + x2) x3 (by omega) (by omega) (by omega) (by omega) (by omega)
    rw [show (x0 * 65536 + x1 * 256 + x2) * ((256 : Nat) : Int) = x0 * 16777216 + x1 * 65536 + x2 * 256 by omega] at this; exact this
  clear hcl hy hb
  go_enter Try.func37, Try.ntmps37
  go_upto_region 1 with fail
  refine wp_region_quiet_tail 22 (by kernel_rfl) (by kernel_rfl) ?_
  simp only [List.take_succ_cons, List.take_zero, List.drop_succ_cons, List.drop_zero]
  repeat (go_big_quiet_step (fail))
  refine wpQuiet_nil ?_
  rintro _ ⟨nq, rfl⟩
  have hbel : Below w.heap.size w (w.drewN nq) := below_drewN (Below.refl _ _) nq
  generalize w.drewN nq = w1 at *
  go_wp2
  go_ret
  exact ⟨rfl, hbel⟩
theorem info23 {l : List Int} (h : l.length = 32) : (Try.prog.info? 23).map (·.size) = some (v8 l).size := by rw [v8_size, h]; kernel_rfl
/-- The first k bytes of bs, noughts behind. -/
def idK (bs : List Int) (k : Nat) : List Int := bs.take k ++ zer (32 - k)
theorem idK_len {bs : List Int} (h : bs.length = 32) {k : Nat} (hk : k ≤ 32) : (idK bs k).length = 32 := by simp [idK, zer_len]; omega
theorem idK_next {bs : List Int} (h : bs.length = 32) {k : Nat} (hk : k < 32) : (idK bs k).set k (gi bs k) = idK bs (k + 1) := by
  apply List.ext_getElem?
  intro i
  unfold idK
  simp only [List.getElem?_set, List.length_append, List.length_take, zer_len]
  by_cases h1 : k = i
  · subst h1
    rw [if_pos rfl, if_pos (by omega), List.getElem?_append_left (by simp; omega), List.getElem?_take_of_lt (by omega)]
    simp [gi, show k < bs.length by omega]
  · rw [if_neg h1]
    by_cases h2 : i < k
    · rw [List.getElem?_append_left (by simp; omega), List.getElem?_append_left (by simp; omega), List.getElem?_take_of_lt (by omega), List.getElem?_take_of_lt (by omega)]
    · rw [List.getElem?_append_right (by simp; omega), List.getElem?_append_right (by simp; omega)]
      simp only [zer, List.getElem?_replicate, List.length_take]
      by_cases h3 : i < 32
      · rw [if_pos (by omega), if_pos (by omega)]
      · rw [if_neg (by omega), if_neg (by omega)]
set_option maxRecDepth 20000 in
set_option maxHeartbeats 1000000 in
theorem id_any (bs : List Int) (b o : Nat) (len cap : Nat) (w : World) (hy : Bytes w (some ⟨b, o, none⟩) bs) (hl : bs.length = 32) (h4 : 32 ≤ len) :
    Calls Try.prog 38 #[.slice (some ⟨b, o, none⟩) len cap] w fun e w' => e = .returned (.agg (v8 bs)) ∧ Below w.heap.size w w' := by
  obtain ⟨b', o', e, hcl⟩ := hy (by omega)
  cases e
  have hb : b < w.heap.size := block_lt_of_cell (hcl 0 (by omega))
  go_enter Try.func38, Try.ntmps38
  go_wp2
  go_loopw [4] (fun i wr => ∃ k : Nat, k ≤ 32 ∧ i = .int .i64 k ∧ Row wr w.heap.size 23 (v8 (zer 32)) ∧ Row wr (w.heap.size + 1) 23 (v8 (idK bs k)) ∧ Below w.heap.size w wr) (fun i _ => 32 - (intOf i).toNat)
  case atStart =>
    exact ⟨0, by omega, rfl, (Row.new _ 23 _).alloc _, Row.newAt _ 23 _ _ (by simp), ((Below.refl _ _).alloc (Nat.le_refl _) _).alloc (by simp) _⟩
  case round =>
    obtain ⟨k, hk, rfl, r1, r2, hbel⟩ := hrel
    have hlen := idK_len hl hk
    by_cases hlt : k < 32
    · have c1 := hbel.cell (p := ⟨b, o + k, none⟩) hb
      rw [hcl k (by omega)] at c1
      have c2 := r2.cell8 (j := k) (by omega)
      have f2 := r2.frozen (j := k)
      have hnx := idK_next hl hlt
      go_wp2
      go_roundw
      case rel => exact ⟨k + 1, by omega, by go_num, r1.setOther (a := ⟨_, k, none⟩) (by simp) _, by rw [← hnx]; exact r2.set8 k _, hbel.setCell (by simp) _⟩
      case measure => simp [intOf]; omega
    · obtain rfl : k = 32 := by omega
      have hE : idK bs 32 = bs := by simp [idK, zer, List.take_of_length_le (Nat.le_of_eq hl)]
      have h25 := info23 hl
      rw [hE] at r2
      have hold : (v8 (zer 32)).size = (v8 bs).size := by rw [v8_size, v8_size, hl, zer_len]
      clear hcl
      go_wp2_with (first
        | (refine wpList_load_row (by rfl) 23 (.tmp 3) (by rfl) (w.heap.size + 1) (by rfl) 23 (v8 bs) (0, 0) _ r2 Try.underlying23 rfl h25 ?_)
        | (refine store_row0 23 (.tmp 2) (.tmp 15) (by rfl) (by rfl) (by rfl) w.heap.size (v8 bs) (by rfl) (by rfl) 23 _ r1 h25 hold (v8_one _) ?_))
      exact bodyPost_ret (results_cell_row Try.results38 _ _ w.heap.size 23 (v8 bs) (0, 0) _ rfl (r1.setRow _) Try.underlying23 rfl h25) rfl ⟨rfl, below_setRow hbel (by omega) _⟩
end Go.Proofs.Ytgcffdnbihfghaa
