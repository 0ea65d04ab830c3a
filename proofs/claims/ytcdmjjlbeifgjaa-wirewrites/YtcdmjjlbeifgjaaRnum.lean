/- wire's (*reader).number: what it answers, and what is left to be read. -/
import Derived.Test.YtcdmjjlbeifgjaaRd
namespace Go.Proofs.Ytcdmjjlbeifgjaa
open Go.RowKit

theorem Rd.bel {w0 w w' : World} {g : Nat} (hb : Below w0.heap.size w0 w) (hf : Fr [g] w w') (hg : w0.heap.size ≤ g) : Below w0.heap.size w0 w' :=
  hb.trans (hf.below (fun k hk => by simp at hk; omega) hb.size)
theorem val_step (bs : List Int) (k : Nat) (hk : k < bs.length) : beV (bs.take (k + 1)) 0 = beV (bs.take k) 0 * 256 + gi bs k := by
  rw [List.take_succ_eq_append_getElem hk, beV_snoc]; simp [gi, hk]

theorem or_byte (n x : Int) (h0 : 0 ≤ n) (h1 : n < 1099511627776) (h2 : 0 ≤ x) (h3 : x < 256) : bits .or .i64 (n * 256) x = n * 256 + x := by
  obtain ⟨a, rfl⟩ := Int.eq_ofNat_of_zero_le h0
  obtain ⟨b, rfl⟩ := Int.eq_ofNat_of_zero_le h2
  show IntKind.i64.wrap ((BitVec.ofInt 64 ((a : Int) * 256) ||| BitVec.ofInt 64 (b : Int)).toNat : Int) = _
  rw [show ((a : Int) * 256) = ((a * 256 : Nat) : Int) by simp, BitVec.toNat_or, ofInt_u64 (a * 256) (by omega), ofInt_u64 b (by omega)]
  have := Nat.two_pow_add_eq_or_of_lt (i := 8) (b := b) (by omega) a
  rw [Nat.mul_comm a 256, show (256 : Nat) = 2 ^ 8 from rfl, ← this, IntKind.wrap_i64]
  omega

set_option maxRecDepth 20000 in
set_option maxHeartbeats 1000000 in
theorem rnum_any (f : Int) (l : List Int) (w0 w : World) (g : Nat) (hR : Rd w0 w g l) (hb : Below w0.heap.size w0 w) (hl : l.length ≤ 1099511627776) (hy : ∀ x ∈ l, 0 ≤ x ∧ x < 256) :
    Calls Try.prog 45 #[.pointer (some ⟨g, 0, none⟩), .int .i64 f] w fun e w' => e = .returned (.tuple #[.int .i64 (numRV f l), .int .i64 (numRE f l)]) ∧ Fr [g] w w' ∧ (numRE f l = 0 → Rd w0 w' g (l.drop (bsz f))) := by
  have hbn := fun w1 => bounds_any f w1
  have hs := bsz_pos f
  have hg := hR.1
  by_cases hsh : l.length < bsz f
  · have hE : numRE f l = 8 := by simp [numRE, hsh]
    have hV : numRV f l = 0 := by simp [numRV, hE]
    rw [hE, hV]
    have ht := take_short (bsz f) l w0 w g hR hsh hl
    clear hE hV hR
    generalize bsz f = s at *
    generalize blo f = lo at *
    generalize bhi f = hi at *
    go_enter Try.func45, Try.ntmps45
    go_wp2_with (first | (go_at_call 49; (with_reducible refine Calls.mono (hbn _) ?_); rintro e w2 ⟨rfl, hw⟩; obtain rfl := hw.symm; clear hw) | (go_at_call 47; (with_reducible refine Calls.mono (ht) ?_); rintro e w3 ⟨rfl, hw⟩; obtain rfl := hw.symm; clear hw))
    go_ret2
    exact ⟨rfl, Fr.refl _ _, fun h => by cases h⟩
  · have ht := take_full (bsz f) l w0 w g hR (by omega) hl
    have hE : numRE f l = if valR f l < blo f ∨ bhi f < valR f l then 11 else 0 := by simp [numRE, hsh]
    have hvd : valR f l = beV (l.take (bsz f)) 0 := rfl
    have hyt : ∀ x ∈ l.take (bsz f), 0 ≤ x ∧ x < 256 := fun x hx => hy x (List.mem_of_mem_take hx)
    have hlt : (l.take (bsz f)).length = bsz f := by simp; omega
    obtain ⟨E, hEe⟩ : ∃ E, E = numRE f l := ⟨_, rfl⟩
    obtain ⟨V, hVe⟩ : ∃ V, V = numRV f l := ⟨_, rfl⟩
    have hV : V = if E = 0 then valR f l else 0 := by rw [hVe, hEe]; rfl
    rw [← hEe, ← hVe]
    rw [← hEe] at hE
    clear hR hEe hVe
    generalize valR f l = v at *
    generalize l.take (bsz f) = bs at *
    generalize bsz f = s at *
    generalize blo f = lo at *
    generalize bhi f = hi at *
    have hv' : Hid (v = beV bs 0) := hvd
    have hE' : Hid (E = if v < lo ∨ hi < v then 11 else 0) := hE
    have hV' : Hid (V = if E = 0 then v else 0) := hV
    clear hvd hE hV
    go_enter Try.func45, Try.ntmps45
    go_wp2_with (first | (go_at_call 49; (with_reducible refine Calls.mono (hbn _) ?_); rintro e w2 ⟨rfl, hw⟩; obtain rfl := hw.symm; clear hw) | (go_at_call 47; (with_reducible refine Calls.mono (ht) ?_); rintro e w3 ⟨p, c, rfl, hby, hsc, hpn, hRd, hFr⟩; have hB3 := Rd.bel hb hFr hg; have hby3 := hby.below hB3))
    go_loop [11, 31] (fun n i => ∃ k : Nat, i = .int .i64 k ∧ k ≤ s ∧ n = .int .i64 (beV (bs.take k) 0)) (fun _ i => s - (intOf i).toNat)
    case atStart => exact ⟨0, rfl, by omega, rfl⟩
    case round =>
      obtain ⟨k, rfl, hk, rfl⟩ := hrel
      by_cases hks : k < s
      · obtain ⟨b, o, rfl, hcl⟩ := hby3 (by omega)
        have g1 := hcl k (by omega)
        have hst := val_step bs k (by omega)
        have hbd := beV_bound (bs.take k) 0 (fun x hx => hyt x (List.mem_of_mem_take hx)) (by omega)
        have hx := hyt (gi bs k) (by simp [gi, show k < bs.length by omega])
        have hk4 : (bs.take k).length = k := by simp; omega
        rw [hk4] at hbd
        have hpw : (256 : Int) ^ k ≤ 16777216 := by
          rcases (by omega : k = 0 ∨ k = 1 ∨ k = 2 ∨ k = 3) with rfl | rfl | rfl | rfl <;> decide
        have hst' : Hid (beV (bs.take (k + 1)) 0 = beV (bs.take k) 0 * 256 + gi bs k) := hst
        have hn0 : 0 ≤ beV (bs.take k) 0 := hbd.1
        have hn1 : beV (bs.take k) 0 < 16777216 := by omega
        clear hcl hst hbd hpw hk4
        generalize beV (bs.take k) 0 = n at *
        generalize gi bs k = x at *
        have hor := or_byte n x hn0 (by omega) hx.1 hx.2
        go_wp2
        go_round
        case rel => exact ⟨k + 1, by go_num, by omega, by rw [hst'.out]⟩
        case measure => simp [intOf]; omega
      · obtain rfl : k = s := by omega
        have htl : bs.take k = bs := List.take_of_length_le (by omega)
        rw [htl, ← hv'.out]
        have hE1 := hE'.out
        by_cases h1 : v < lo
        · rw [if_pos (.inl h1)] at hE1
          have hV1 := hV'.out
          rw [hE1, if_neg (by decide)] at hV1
          subst hE1; subst hV1
          clear hE' hV' hv' ht htl
          go_wp2
          go_ret2
          exact ⟨rfl, hFr⟩
        · by_cases h2 : hi < v
          · rw [if_pos (.inr h2)] at hE1
            have hV1 := hV'.out
            rw [hE1, if_neg (by decide)] at hV1
            subst hE1; subst hV1
            clear hE' hV' hv' ht htl
            go_wp2
            go_ret2
            exact ⟨rfl, hFr⟩
          · rw [if_neg (by omega)] at hE1
            have hV1 := hV'.out
            rw [hE1, if_pos rfl] at hV1
            subst hE1; subst hV1
            clear hE' hV' hv' ht htl
            go_wp2
            go_ret2
            exact ⟨rfl, hFr, hRd⟩
end Go.Proofs.Ytcdmjjlbeifgjaa
