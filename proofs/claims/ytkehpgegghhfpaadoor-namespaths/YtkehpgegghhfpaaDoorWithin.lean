/- 'within' is the remainder from 0 on; 'same' says whether two lists of texts are the same. Neither turns old memory. -/
import Derived.Test.YtkehpgegghhfpaaDoorAll
import Derived.Test.YtkehpgegghhfpaaDoorTail
namespace Go.Proofs.YtkehpgegghhfpaaDoor
open Go.RowKit

theorem tmod_neg {a n : Int} (hn : 0 < n) (h : a.tmod n < 0) : a.tmod n + n = a % n := by
  have := Int.tmod_eq_emod (a := a) (b := n)
  split at this
  · have h2 := Int.emod_nonneg a (show n ≠ 0 by omega); omega
  · omega
theorem tmod_pos {a n : Int} (hn : 0 < n) (h : ¬ a.tmod n < 0) : a.tmod n = a % n := by
  have := Int.tmod_eq_emod (a := a) (b := n)
  have h1 := Int.emod_lt_of_pos a hn
  split at this
  · omega
  · omega

set_option maxRecDepth 20000 in
theorem within_any (a n : Int) (w : World) (hn : 0 < n) (hn2 : n ≤ 4611686018427387904) :
    Calls Tryd.prog 10 #[.int .i64 a, .int .i64 n] w fun e w' => e = .returned (.int .i64 (a % n)) ∧ w' = w := by
  have hne : (n == 0) = false := by simp; omega
  have hne' : n ≠ 0 := by omega
  have hlo : -n < a.tmod n := by
    have := Int.lt_tmod_of_pos a hn; omega
  by_cases h : a.tmod n < 0
  · have e := tmod_neg hn h
    go_enter Tryd.func10, Tryd.ntmps10
    go_wp2
    go_ret
    exact ⟨rfl, rfl⟩
  · have e := tmod_pos hn h
    rw [← e]
    go_enter Tryd.func10, Tryd.ntmps10
    go_wp2
    go_ret
    exact ⟨rfl, rfl⟩

set_option maxRecDepth 20000 in
set_option maxHeartbeats 1000000 in
theorem same_any (xs ys : List ByteArray) (p q : Option Addr) (c d : Nat) (w : World) (hx : Strs w p xs) (hy : Strs w q ys) (hl : xs.length ≤ 4611686018427387904) (hm : ys.length ≤ 4611686018427387904) :
    Calls Tryd.prog 16 #[.slice p xs.length c, .slice q ys.length d] w fun e w' => e = .returned (.bool (decide (xs = ys))) ∧ Below w.heap.size w w' := by
  by_cases hlen : xs.length = ys.length
  · go_enter Tryd.func16, Tryd.ntmps16
    rw [← hlen]
    go_wp2
    go_loopw [5] (fun i wr => ∃ k : Nat, i = .int .i64 k ∧ k ≤ xs.length ∧ (∀ j, j < k → xs.getD j ByteArray.empty = ys.getD j ByteArray.empty) ∧ Below w.heap.size w wr) (fun i _ => xs.length - (intOf i).toNat)
    case atStart => exact ⟨0, rfl, by omega, fun j hj => by omega, Below.refl _ _⟩
    case round =>
      obtain ⟨k, rfl, hk, hj, hb⟩ := hrel
      by_cases hlt : k < xs.length
      · obtain ⟨b, o, rfl, hc⟩ := hx.below hb (Nat.le_refl _) (by omega)
        obtain ⟨b', o', rfl, hc'⟩ := hy.below hb (Nat.le_refl _) (by omega)
        have g1 := hc k hlt
        have g2 := hc' k (by omega)
        have hat : xs.getD k ByteArray.empty = ys.getD k ByteArray.empty → (∀ j, j < k + 1 → xs.getD j ByteArray.empty = ys.getD j ByteArray.empty) := fun h j hjk => by
          by_cases e : j = k
          · subst e; exact h
          · exact hj j (by omega)
        have hno : xs.getD k ByteArray.empty ≠ ys.getD k ByteArray.empty → decide (xs = ys) = false := fun h => by simp; rintro rfl; exact h rfl
        clear hc hc' hj hx hy
        generalize xs.getD k ByteArray.empty = x at *
        generalize ys.getD k ByteArray.empty = y at *
        go_wp2
        refine wp_region_quiet_tail 8 (by kernel_rfl) (by kernel_rfl) ?_
        simp only [List.take_succ_cons, List.take_zero, List.drop_succ_cons, List.drop_zero]
        repeat (go_big_quiet_step (fail))
        refine wpQuiet_nil ?_
        rintro _ ⟨nq, rfl⟩
        have hb2 := below_drewN hb nq
        by_cases he : x = y
        · have hq : (x.toList != y.toList) = false := by simp [he]
          have hq2 : (x.toList == y.toList) = true := by simp [he]
          go_wp2
          go_roundw
          case rel => exact ⟨k + 1, by go_num, by omega, hat he, hb2⟩
          case measure => simp [intOf]; omega
        · have hq : (x.toList != y.toList) = true := by
            simp only [bne_iff_ne, ne_eq, ByteArray.toList_eq]
            intro h; apply he
            cases x; cases y; simp only at h; congr 1; exact Array.toList_inj.1 h
          have hq2 : (x.toList == y.toList) = false := by simpa using hq
          go_wp2
          go_ret
          exact ⟨by rw [hno he]; rfl, hb2⟩
      · obtain rfl : k = xs.length := by omega
        have he : xs = ys := by
          apply List.ext_getElem hlen
          intro j h1 h2
          have := hj j h1
          simpa [List.getD_eq_getElem?_getD, h1, h2] using this
        subst he
        go_wp2
        go_ret
        exact ⟨by simp, hb⟩
  · have hn : decide (xs = ys) = false := by simp; rintro rfl; exact hlen rfl
    rw [hn]
    have h1 : ((xs.length : Int) != (ys.length : Int)) = true := by simp; omega
    go_enter Tryd.func16, Tryd.ntmps16
    go_wp2
    go_ret
    exact ⟨rfl, Below.refl _ _⟩
end Go.Proofs.YtkehpgegghhfpaaDoor
