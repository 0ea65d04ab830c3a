/- wire's (*reader).bytes and pred, and bytes.Clone. -/
import Derived.Test.YtcdmjjlbeifgjaaRnum
import Derived.Test.YtcdmjjlbeifgjaaRmodel2
import Derived.Lib.SliceRun
namespace Go.Proofs.Ytcdmjjlbeifgjaa
open Go.RowKit

set_option maxRecDepth 20000 in
set_option maxHeartbeats 1000000 in
theorem clone_any (cs : List Int) (p : Option Addr) (c : Nat) (w : World) (hb : Bytes w p cs) (hl : cs.length ≤ 1099511627776) (hp : p = none → c = 0) (hc : cs.length ≤ c) :
    Calls Try.prog 50 #[.slice p cs.length c] w fun e w' => ∃ sp cap, e = .returned (.slice sp cs.length cap) ∧ Own8 w' w.heap.size 5 (.slice sp cs.length cap) cs ∧ Below w.heap.size w w' := by
  by_cases hn : p = none
  · subst hn
    have hcz := hp rfl
    subst hcz
    obtain rfl : cs = [] := List.eq_nil_of_length_eq_zero (by omega)
    have heq : (binOp .eql 25 (.slice none 0 0) (.slice none 0 0)).run Try.prog w = .ok (.bool true) w := Lib.run_eql_slice_nil w 25 5 none 0 0 0 0 Try.underlying25
    simp only [List.length_nil]
    go_enter Try.func50, Try.ntmps50
    go_wp2
    go_ret
    exact ⟨none, 0, rfl, World.ownsRow_nil _ _ _ _, Below.refl _ _⟩
  · obtain ⟨ad, rfl⟩ := Option.ne_none_iff_exists'.1 hn
    clear hn hp
    have ho := World.ownsRow_lit (base := w.heap.size) (e := 5) (size := 1) w #[] 0 (Nat.le_refl _) (by unfold maxLen; omega) rfl
    have ho' : Own8 (w.alloc (.cells #[] 5)) w.heap.size 5 (.slice (some ⟨w.heap.size, 0, none⟩) 0 0) [] := ho
    have hby := hb.below ((Below.refl _ _).alloc (Nat.le_refl _) (.cells #[] 5))
    have heq : (binOp .eql 25 (.slice (some ad) cs.length c) (.slice none 0 0)).run Try.prog w = .ok (.bool false) w := Lib.run_eql_slice_nil w 25 5 (some ad) _ _ 0 0 Try.underlying25
    go_enter Try.func50, Try.ntmps50
    go_wp2_with (at_builtin; (refine append8k (.tmp 5) (.tmp 6) 25 5 (by rfl) (by rfl) w.heap.size Try.underlying25 info5 (.slice (some ⟨w.heap.size, 0, none⟩) 0 0) [] (by rfl) ?ho (some ad) cs.length c cs (by rfl) rfl ?hnil ?hby ?hlen ?hB ?_; (case ho => exact ho'); (case hnil => exact (fun h => by cases h)); (case hby => exact hby); (case hlen => simp; omega); (case hB => simp); simp only [List.nil_append]; intro sp5 cap5 w5 o5 b5 k5))
    go_ret
    exact ⟨sp5, cap5, rfl, o5, ((Below.refl _ _).alloc (Nat.le_refl _) _).trans b5⟩

set_option maxRecDepth 20000 in
set_option maxHeartbeats 1000000 in
theorem rbytes_any (l : List Int) (w0 w : World) (g : Nat) (hR : Rd w0 w g l) (hb : Below w0.heap.size w0 w) (hl : l.length ≤ 549755813888) (hy : ∀ x ∈ l, 0 ≤ x ∧ x < 256) :
    Calls Try.prog 48 #[.pointer (some ⟨g, 0, none⟩)] w fun e w' => ∃ sp cap, e = .returned (.tuple #[.slice sp (if dataRE l = 0 then dataRV l else []).length cap, .int .i64 (dataRE l)]) ∧ Own8 w' w.heap.size 5 (.slice sp (if dataRE l = 0 then dataRV l else []).length cap) (if dataRE l = 0 then dataRV l else []) ∧ Fr [g] w w' ∧ (dataRE l = 0 → Rd w0 w' g (l.drop (2 + (numRV 2 l).toNat))) := by
  have hg := hR.1
  have hnum := rnum_any 2 l w0 w g hR hb (by omega) hy
  have hbd := numRV_bound 2 l
  rw [show bsz 2 = 2 from rfl] at hnum
  obtain ⟨xs, hxs⟩ : ∃ xs, xs = if dataRE l = 0 then dataRV l else [] := ⟨_, rfl⟩
  rw [← hxs]
  by_cases h1 : numRE 2 l = 0
  · have hdE : dataRE l = if (l.drop 2).length < (numRV 2 l).toNat then 8 else 0 := by simp [dataRE, h1]
    have hdV : dataRV l = (l.drop 2).take (numRV 2 l).toNat := rfl
    rw [h1] at hnum
    obtain ⟨n, hn⟩ : ∃ n : Nat, numRV 2 l = n := ⟨(numRV 2 l).toNat, by omega⟩
    rw [hn] at hnum
    rw [hn, Int.toNat_natCast] at hdE hdV ⊢
    by_cases h2 : (l.drop 2).length < n
    · rw [if_pos h2] at hdE
      rw [hdE] at hxs ⊢
      simp only [show ¬ ((8 : Int) = 0) by decide, if_false] at hxs
      subst hxs
      have ht := fun w1 h => take_short n (l.drop 2) w0 w1 g h h2 (by simp; omega)
      clear hdE hdV hn h1 hR
      go_enter Try.func48, Try.ntmps48
      go_wp2_with (first | (go_at_call 45; (with_reducible refine Calls.mono (hnum) ?_); rintro e w2 ⟨rfl, hF2, hR2⟩) | (go_at_call 47; (with_reducible refine Calls.mono (ht _ (hR2 trivial)) ?_); rintro e w3 ⟨rfl, hw⟩; obtain rfl := hw.symm; clear hw) | (go_at_call 50; (with_reducible refine Calls.mono (clone_any [] none 0 _ (Bytes.nil _ _) (by decide) (fun _ => rfl) (Nat.le_refl _)) ?_); rintro e w4 ⟨sp, cap, rfl, ho, hb4⟩))
      go_ret2
      exact ⟨sp, cap, rfl, World.ownsRow.mono ho hF2.size, hF2.trans (Fr.of_below hb4), fun h => by cases h⟩
    · rw [if_neg h2] at hdE
      rw [hdE] at hxs ⊢
      rw [if_pos rfl, hdV] at hxs
      have ht := fun w1 h => take_full n (l.drop 2) w0 w1 g h (by omega) (by simp; omega)
      have hxl : xs.length = n := by rw [hxs, List.length_take]; omega
      rw [List.drop_drop] at ht
      rw [← hxs] at ht
      have hx' : Hid (xs.length = n) := hxl
      rw [hxl]
      have hcl := fun p c w1 h1 h2 h3 => clone_any xs p c w1 h1 (by omega) h2 h3
      rw [hxl] at hcl
      clear hdE hdV hn h1 hR hxs hxl
      go_enter Try.func48, Try.ntmps48
      go_wp2_with (first | (go_at_call 45; (with_reducible refine Calls.mono (hnum) ?_); rintro e w2 ⟨rfl, hF2, hR2⟩; have hB2 := Rd.bel hb hF2 hg) | (go_at_call 47; (with_reducible refine Calls.mono (ht _ (hR2 trivial)) ?_); rintro e w3 ⟨p, c, rfl, hby, hnc, hpn, hR3, hF3⟩; have hB3 := Rd.bel hB2 hF3 hg) | (go_at_call 50; (with_reducible refine Calls.mono (hcl _ _ _ (hby.below hB3) hpn hnc) ?_); rintro e w4 ⟨sp, cap, rfl, ho, hb4⟩))
      go_ret2
      exact ⟨sp, cap, rfl, World.ownsRow.mono ho (Nat.le_trans hF2.size hF3.size), (hF2.trans hF3).trans (Fr.of_below hb4), fun _ => hR3.fr hb4⟩
  · have hdE : dataRE l = numRE 2 l := by simp [dataRE, h1]
    rw [hdE] at hxs ⊢
    rw [if_neg h1] at hxs
    subst hxs
    have hV : numRV 2 l = 0 := by simp [numRV, h1]
    rw [hV] at hnum
    have hne : (numRE 2 l != 0) = true := by simpa using h1
    have h1' : Hid (numRE 2 l ≠ 0) := h1
    clear hdE h1 hR hV
    generalize numRE 2 l = E at *
    go_enter Try.func48, Try.ntmps48
    go_wp2_with (first | (go_at_call 45; (with_reducible refine Calls.mono (hnum) ?_); rintro e w2 ⟨rfl, hF2, hR2⟩))
    go_ret2
    exact ⟨none, 0, rfl, World.ownsRow_nil _ _ _ _, hF2, fun h => absurd h h1'.out⟩
end Go.Proofs.Ytcdmjjlbeifgjaa
