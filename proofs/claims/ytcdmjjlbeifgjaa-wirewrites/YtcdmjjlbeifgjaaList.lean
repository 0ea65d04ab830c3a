/- wire's (*writer).list: what it answers, and what is written. -/
import Derived.Test.YtcdmjjlbeifgjaaWrite
namespace Go.Proofs.Ytcdmjjlbeifgjaa
open Go.RowKit

theorem nodesE_ok : ∀ (l : List Int), (∀ j, j < l.length → 0 ≤ gi l j ∧ gi l j ≤ 9) → nodesE l = 0
  | [], _ => rfl
  | x :: l, h => by
    have h0 := h 0 (by simp)
    simp only [gi, List.getD_cons_zero] at h0
    rw [nodesE, if_neg (by omega)]
    exact nodesE_ok l fun j hj => by have := h (j + 1) (by simpa using hj); simpa [gi] using this
theorem nodesE_bad : ∀ (l : List Int) (k : Nat), k < l.length → (gi l k < 0 ∨ 9 < gi l k) → nodesE l = 1
  | [], k, h, _ => by simp at h
  | x :: l, k, h, hb => by
    rw [nodesE]
    split
    · rfl
    · rename_i hx
      cases k with
      | zero => simp [gi] at hb; omega
      | succ k => exact nodesE_bad l k (by simpa using h) (by simpa [gi] using hb)
theorem take_flat (l : List Int) (k : Nat) (h : k < l.length) : (l.take (k + 1)).flatMap (nb 1) = (l.take k).flatMap (nb 1) ++ nb 1 (gi l k) := by
  rw [List.take_succ_eq_append_getElem h, List.flatMap_append]
  simp [gi, h]
theorem flat_length (l : List Int) : (l.flatMap (nb 1)).length = l.length := by
  induction l with
  | nil => rfl
  | cons x l ih => rw [List.flatMap_cons, List.length_append, nb_length, ih, List.length_cons]; omega

set_option maxRecDepth 20000 in
set_option maxHeartbeats 1000000 in
theorem list_any (l : List Int) (lp : Option Addr) (lc : Nat) (w0 w : World) (g : Nat) (bs : List Int) (hb : Below w0.heap.size w0 w) (hW : Wr w w0.heap.size g bs) (hl : bs.length ≤ 549755813888) (hll : l.length ≤ 549755813888)
    (hI : Ints w0 lp l) :
    Calls Try.prog 38 #[.pointer (some ⟨g, 0, none⟩), .slice lp l.length lc] w fun e w' => e = .returned (.int .i64 (listE l)) ∧ Below w0.heap.size w0 w' ∧ (listE l = 0 → Wr w' w0.heap.size g (bs ++ (nb 1 l.length ++ l.flatMap (nb 1)))) := by
  have hnum := number_any 1 l.length 4 w w0.heap.size g bs hW (by omega) hb.size (by decide)
  rw [show bsz 1 = 1 from rfl] at hnum
  by_cases h : 10 < l.length
  · rw [show numE 1 l.length 4 = 4 by unfold numE; rw [show blo 1 = 0 from rfl, show bhi 1 = 10 from rfl, if_pos (by omega)]] at hnum
    rw [show listE l = 4 by simp [listE, h]]
    go_enter Try.func38, Try.ntmps38
    go_wp2_with (go_at_call 37; (with_reducible refine Calls.mono (hnum) ?_); rintro e w2 ⟨rfl, hb2, hw2⟩)
    go_ret
    exact ⟨rfl, hb.trans hb2, fun h => by cases h⟩
  · rw [show numE 1 l.length 4 = 0 by unfold numE; rw [show blo 1 = 0 from rfl, show bhi 1 = 10 from rfl, if_neg (by omega)]] at hnum
    rw [show listE l = nodesE l by simp [listE]; omega]
    have hle : l.length ≤ 10 := by omega
    have hnl := nb_length 1 l.length
    rw [← List.append_assoc]
    generalize nb 1 (l.length : Int) = hd at *
    have hlb : (bs ++ hd).length ≤ 549755813890 := by simp; omega
    generalize bs ++ hd = fs at *
    clear h
    go_enter Try.func38, Try.ntmps38
    go_wp2_with (go_at_call 37; (with_reducible refine Calls.mono (hnum) ?_); rintro e w2 ⟨rfl, hb2, hw2⟩; have hW2 := hw2 rfl; have hB2 := hb.trans hb2)
    go_loopw [18] (fun i wr => ∃ k : Nat, i = .int .i64 k ∧ k ≤ l.length ∧ (∀ j, j < k → 0 ≤ gi l j ∧ gi l j ≤ 9) ∧ Wr wr w0.heap.size g (fs ++ (l.take k).flatMap (nb 1)) ∧ Below w0.heap.size w0 wr) (fun i _ => l.length - (intOf i).toNat)
    case atStart => exact ⟨0, rfl, by omega, fun j hj => by omega, by simpa using hW2, hB2⟩
    case round =>
      obtain ⟨k, rfl, hk, hok, hWk, hBk⟩ := hrel
      by_cases hlt : k < l.length
      · obtain ⟨b, o, rfl, hc⟩ := hI.below hBk (Nat.le_refl _) (by omega)
        have g1 := hc k hlt
        have hx := fun n => number_any 0 n 1 wr w0.heap.size g _ hWk (by rw [List.length_append, flat_length, List.length_take]; omega) hBk.size (by decide)
        have hstep := take_flat l k hlt
        have hbad := nodesE_bad l k hlt
        have hgood : (0 ≤ gi l k ∧ gi l k ≤ 9) → ∀ j, j < k + 1 → 0 ≤ gi l j ∧ gi l j ≤ 9 := fun h j hj => by
          by_cases e : j = k
          · subst e; exact h
          · exact hok j (by omega)
        rw [show bsz 0 = 1 from rfl] at hx
        clear hc hok hnum hI
        generalize gi l k = n at *
        by_cases hn : n < 0 ∨ 9 < n
        · have hxn := hx n
          rw [show numE 0 n 1 = 1 by unfold numE; rw [show blo 0 = 0 from rfl, show bhi 0 = 9 from rfl, if_pos (by omega)]] at hxn
          have hone := hbad hn
          clear hbad hx hgood hstep hn
          go_wp2_with (go_at_call 37; (with_reducible refine Calls.mono (hxn) ?_); rintro e w3 ⟨rfl, hb3, hw3⟩)
          go_ret
          exact ⟨by rw [hone]; rfl, hBk.trans hb3, fun h => by rw [hone] at h; cases h⟩
        · have hxn := hx n
          rw [show numE 0 n 1 = 0 by unfold numE; rw [show blo 0 = 0 from rfl, show bhi 0 = 9 from rfl, if_neg (by omega)]] at hxn
          have hg := hgood (by omega)
          have hstep' : Hid ((l.take (k + 1)).flatMap (nb 1) = (l.take k).flatMap (nb 1) ++ nb 1 n) := hstep
          clear hbad hx hgood hstep hn
          go_wp2_with (go_at_call 37; (with_reducible refine Calls.mono (hxn) ?_); rintro e w3 ⟨rfl, hb3, hw3⟩)
          go_roundw
          case rel => exact ⟨k + 1, by go_num, by omega, hg, by rw [hstep'.out, ← List.append_assoc]; exact hw3 trivial, hBk.trans hb3⟩
          case measure => simp [intOf]; omega
      · obtain rfl : k = l.length := by omega
        have h0 := nodesE_ok l hok
        clear hlt hok
        go_wp2
        go_ret
        exact ⟨by rw [h0]; rfl, hBk, fun _ => by simpa using hWk⟩
end Go.Proofs.Ytcdmjjlbeifgjaa
