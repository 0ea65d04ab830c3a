/- wire's (*reader).pred. -/
import Derived.Test.YtcdmjjlbeifgjaaRbytes
namespace Go.Proofs.Ytcdmjjlbeifgjaa
open Go.RowKit

set_option maxRecDepth 20000 in
set_option maxHeartbeats 1000000 in
theorem rpred_any (l : List Int) (w0 w : World) (g : Nat) (hR : Rd w0 w g l) (hb : Below w0.heap.size w0 w) (hl : l.length ≤ 549755813888) (hy : ∀ x ∈ l, 0 ≤ x ∧ x < 256) :
    Calls Try.prog 44 #[.pointer (some ⟨g, 0, none⟩)] w fun e w' => e = .returned (.tuple #[.int .i64 (predRV l), .int .i64 (predRE l)]) ∧ Fr [g] w w' ∧ (predRE l = 0 → Rd w0 w' g (l.drop 1)) := by
  have hg := hR.1
  have hnum := rnum_any 0 l w0 w g hR hb (by omega) hy
  rw [show bsz 0 = 1 from rfl] at hnum
  obtain ⟨_, p, c, hr, hby, hcap, hpn⟩ := hR
  have hc0 : w.cell? ⟨g, 0, none⟩ = some (.slice p l.length c) := hr.cell
  have hf0 := hr.frozen (j := 0)
  cases l with
  | nil =>
    rw [show predRV [] = numRV 0 [] from rfl, show predRE [] = numRE 0 [] from rfl]
    generalize numRV 0 [] = V at *
    generalize numRE 0 [] = E at *
    clear hr hby
    simp only [List.length_nil] at hc0
    go_enter Try.func44, Try.ntmps44
    go_wp2_with (go_at_call 45; (with_reducible refine Calls.mono (hnum) ?_); rintro e w2 ⟨rfl, hF2, hR2⟩)
    go_ret2
    exact ⟨rfl, hF2, hR2⟩
  | cons x t =>
    obtain ⟨b, o, rfl, hcl⟩ := hby (by simp)
    have hbw := hby.below hb
    obtain ⟨b', o', e', hcl'⟩ := hbw (by simp)
    injection e' with e'; injection e' with e1 e2
    subst e1; subst e2
    have k0 : w.cell? ⟨b, o, none⟩ = some (.int .u8 x) := by
      have := hcl' 0 (by simp)
      simpa [gi] using this
    have hadv : Bytes w0 (some ⟨b, o + 1, none⟩) t := by simpa [Addr.add] using hby.adv 1
    clear hcl hcl' hbw
    by_cases hx : x = 255
    · subst hx
      rw [show predRV (255 :: t) = -1 from rfl, show predRE (255 :: t) = 0 from rfl]
      simp only [List.length_cons] at hc0 hcap hr
      clear hnum
      by_cases hc1 : c = 1
      · subst hc1
        obtain rfl : t = [] := List.eq_nil_of_length_eq_zero (by omega)
        simp only [List.length_nil, Nat.zero_add] at hc0 hr
        go_enter Try.func44, Try.ntmps44
        go_wp2
        go_ret2
        exact ⟨rfl, (Fr.refl _ _).setCell (by simp) _, Rd.set hg hr (Bytes.nil _ _) rfl (Nat.le_refl _) (fun h => by cases h)⟩
      · go_enter Try.func44, Try.ntmps44
        go_wp2
        go_ret2
        exact ⟨rfl, (Fr.refl _ _).setCell (by simp) _, Rd.set hg hr hadv rfl (by omega) (fun h => by cases h)⟩
    · have hne : (x == 255) = false := by simpa using hx
      rw [show predRV (x :: t) = numRV 0 (x :: t) by simp [predRV, hx], show predRE (x :: t) = numRE 0 (x :: t) by simp [predRE, hx]]
      generalize numRV 0 (x :: t) = V at *
      generalize numRE 0 (x :: t) = E at *
      simp only [List.length_cons] at hc0
      clear hr hby hadv
      go_enter Try.func44, Try.ntmps44
      go_wp2_with (go_at_call 45; (with_reducible refine Calls.mono (hnum) ?_); rintro e w2 ⟨rfl, hF2, hR2⟩)
      go_ret2
      exact ⟨rfl, hF2, hR2⟩
end Go.Proofs.Ytcdmjjlbeifgjaa
