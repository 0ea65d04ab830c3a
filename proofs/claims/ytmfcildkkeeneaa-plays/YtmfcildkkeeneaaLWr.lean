/- What a ledger writes: its write, as it changes the disk. -/
import Derived.Test.YtmfcildkkeeneaaLGr
import Derived.Test.YtmfcildkkeeneaaClaims8
namespace Go.Proofs.Ytmfcildkkeeneaa
open Go Go.RowKit

/-- '-n & 7'. -/
theorem and7 (x : Int) : bits .and .i64 x 7 = x % 8 := by
  show IntKind.i64.wrap ((BitVec.ofInt 64 x &&& BitVec.ofInt 64 7).toNat : Int) = _
  have e1 : (BitVec.ofInt 64 7).toNat = 2 ^ 3 - 1 := rfl
  have e2 : (BitVec.ofInt 64 x).toNat = (x % 18446744073709551616).toNat := by rw [BitVec.toNat_ofInt]; rfl
  rw [BitVec.toNat_and, e1, e2, Nat.and_two_pow_sub_one_eq_mod, IntKind.wrap_i64]
  omega
theorem lack_eq (n : Nat) : (-(n : Int)) % 8 = (lackN n : Int) := by unfold lackN; omega
/-- A ledger's cells. -/
def lc (g : Nat) (last ops : Int) : Array Value := #[.pointer (some ⟨g, 0, none⟩), .int .i64 last, .int .i64 ops]
theorem Dk.apart {w : World} {g h a : Nat} {d : D} {t : TypeId} {vs : Array Value} (hD : Dk w g h d) (hr : Row w a t vs) (h1 : t ≠ 61) (h2 : t ≠ 5) : a ≠ g ∧ a ≠ h := by
  obtain ⟨sp, cap, r, ho, rfl⟩ := hD
  have k1 : a ≠ g := by
    rintro rfl
    unfold Row at hr r
    rw [r] at hr
    injection hr with hr; injection hr with _ hr
    exact h1 hr.symm
  refine ⟨k1, ?_⟩
  rcases ho.row with ⟨rfl, _⟩ | ⟨g', cur, rfl, r2, _⟩
  · exact k1
  · intro e
    have e : a = g' := e
    unfold Row at hr r2
    rw [e, r2] at hr
    injection hr with hr; injection hr with _ hr
    exact h2 hr.symm
/-- Kept out of the walk's sight. -/
def Hid (p : Prop) : Prop := p
/-- What a write of row b makes of the disk, and what it answers. -/
def wE (d : D) (b : List Int) : Int := if aErr d b = 0 then sErr (dApp d b) else aErr d b
def wD (d : D) (b : List Int) : D := if aErr d b = 0 then dSync (dApp d b) else dApp d b
theorem dApp_room (d : D) (b : List Int) : (dApp d b).room = d.room := by
  unfold dApp dWork; repeat (first | split | rfl)

set_option maxRecDepth 20000 in
set_option maxHeartbeats 1000000 in
theorem write_any (d : D) (n last ops : Int) (a g h : Nat) (w : World) (hL : Row w a 63 (lc g last ops)) (hD : Dk w g h d) (hk : Ok d) (hops : d.ops < 999990) :
    Calls Try.prog 26 #[.pointer (some ⟨a, 0, none⟩), .int .i64 n] w fun e w' => e = .returned (.int .i64 (wE d (rowL d.bytes n))) ∧ ∃ h', Dk w' g h' (wD d (rowL d.bytes n)) ∧ Fr [g, h] w w' ∧ (h' = h ∨ w.heap.size ≤ h') := by
  have hfit := hk.fits
  have hroom := hk.room
  have hand : bits .and .i64 (-(d.bytes.length : Int)) 7 = (lackN d.bytes.length : Int) := (and7 _).trans (lack_eq _)
  have hlk : lackN d.bytes.length < 8 := by unfold lackN; omega
  have hR := recL_len n
  have hrec := fun w1 => record_any n w1
  have hB0 := fun w1 (hd : Dk w1 g h d) => bytes_any d g h w1 hd hk
  have hrow : rowL d.bytes n = zer (lackN d.bytes.length) ++ recL n := rfl
  obtain ⟨E1, hE1⟩ : ∃ E1, aErr d (rowL d.bytes n) = E1 := ⟨_, rfl⟩
  have hap := fun w1 (sp0 : Option Addr) hd hb hn => append_any d (rowL d.bytes n) sp0 (rowL d.bytes n).length g h w1 hd hk hb hn (by rw [rowL_len]; omega)
  have hk2 := ok_app hk (show d.ops < 1000000 by omega) (rowL d.bytes n)
  have hsy := fun w1 h1 (hd : Dk w1 g h1 (dApp d (rowL d.bytes n))) => sync_any (dApp d (rowL d.bytes n)) g h1 w1 hd hk2
  have hrl := rowL_len d.bytes n
  rw [hE1] at hap
  rw [show wE d (rowL d.bytes n) = if E1 = 0 then sErr (dApp d (rowL d.bytes n)) else E1 from by unfold wE; rw [hE1], show wD d (rowL d.bytes n) = if E1 = 0 then dSync (dApp d (rowL d.bytes n)) else dApp d (rowL d.bytes n) from by unfold wD; rw [hE1]]
  clear hE1
  rw [hrl] at hap
  generalize rowL d.bytes n = B8 at *
  generalize recL n = R at *
  have hmk := fun W => make8 (lackN d.bytes.length + 8) ((lackN d.bytes.length : Int) + 8) (by simp) (by omega) W
  generalize lackN d.bytes.length = k at *
  have hwr : IntKind.i64.wrap ((k : Int) + 8) = (k : Int) + 8 := by rw [IntKind.wrap_i64]; omega
  obtain ⟨d2, hd2⟩ : ∃ d2, dApp d B8 = d2 := ⟨_, rfl⟩
  rw [hd2] at hap hsy hk2 ⊢
  clear hd2
  have ha := hD.apart hL (by decide) (by decide)
  have l1 := hD.lt
  have la := hL.lt
  have q0 : w.cell? ⟨a, 0, none⟩ = some (.pointer (some ⟨g, 0, none⟩)) := hL.cell
  obtain ⟨V, hV⟩ : ∃ V, (if E1 = 0 then sErr d2 else E1) = V := ⟨_, rfl⟩
  obtain ⟨F, hF⟩ : ∃ F, (if E1 = 0 then dSync d2 else d2) = F := ⟨_, rfl⟩
  rw [hV, hF]
  replace hV : Hid (_ = _) := hV
  replace hF : Hid (_ = _) := hF
  go_enter Try.func26, Try.ntmps26
  go_upto_region 2 with (go_at_call 22; (with_reducible refine Calls.mono (hB0 _ hD) ?_); rintro e w1 ⟨rfl, _, hb1⟩)
  replace hL := hL.below hb1 la
  replace hD : Dk w1 g h d := hD.fr (Fr.of_below (l := []) hb1) (by simp) (by simp)
  have hF0 : Fr [g, h] w w1 := Fr.of_below hb1
  clear q0 hb1
  have l1' := hD.lt
  have hs1 := hF0.size
  have la' := hL.lt
  obtain ⟨B, hB⟩ : ∃ B, B = w1.heap.size := ⟨_, rfl⟩
  have hsB : ∀ {w : World}, Below B w1 w → B ≤ w.heap.size := fun h => by have := h.size; omega
  refine region_invFA  (by kernel_rfl) (by kernel_rfl) (fun a0 listed a w => ∃ s6 s7 s17 s18 s19 s20 s21, a = (Act.put (Act.put (Act.put (Act.put (Act.put (Act.put (Act.put a0 (some 6) s6) (some 7) s7) (some 17) s17) (some 18) s18) (some 19) s19) (some 20) s20) (some 21) s21) ∧ Below B w1 w ∧ (listed.getD 0 false = true → s17 = .int .i64 (k : Int)) ∧ (listed.getD 1 false = true → s18 = .int .i64 ((k : Int) + 8)) ∧ (listed.getD 2 false = true → LitS w B s19 (k + 8) (zer (k + 8))) ∧ (listed.getD 3 false = true → s20 = .int .i64 n) ∧ (listed.getD 4 false = true → s21 = (.agg (v8 R))) ∧ (listed.getD 5 false = true → listed.getD 7 false = false → VarS w B s7 67 (zer 8)) ∧ (listed.getD 6 false = true → LitS w B s6 (k + 8) (zer (k + 8))) ∧ (listed.getD 7 false = true → VarS w B s7 67 R)) ?_ ?_ ?_
  all_goals simp only [Act.put, List.setIfInBounds_toArray, List.set_cons_succ, List.set_cons_zero]
  · exact ⟨_, _, _, _, _, _, _, rfl, (Below.refl B _).drew, (fun h => absurd h (by rw [getD_replicate_false]; decide)), (fun h => absurd h (by rw [getD_replicate_false]; decide)), (fun h => absurd h (by rw [getD_replicate_false]; decide)), (fun h => absurd h (by rw [getD_replicate_false]; decide)), (fun h => absurd h (by rw [getD_replicate_false]; decide)), (fun h => absurd h (by rw [getD_replicate_false]; decide)), (fun h => absurd h (by rw [getD_replicate_false]; decide)), (fun h => absurd h (by rw [getD_replicate_false]; decide))⟩
  · intro listed a w i o hls hJ hin ho hi hall hcl
    obtain ⟨s6, s7, s17, s18, s19, s20, s21, rfl, hbW, c0, c1, c2, c3, c4, c5, c6, c7⟩ := hJ
    replace hin : i < 8 := hin
    rcases (by omega : i = 0 ∨ i = 1 ∨ i = 2 ∨ i = 3 ∨ i = 4 ∨ i = 5 ∨ i = 6 ∨ i = 7) with rfl | rfl | rfl | rfl | rfl | rfl | rfl | rfl
    · obtain rfl := Option.some.inj ho
      have hsz : 0 < listed.size := by rw [hls]; decide
      have hbw := hbW
      refine inv_val (w' := w) (.int .i64 (k : Int)) rfl rfl rfl ?_
      exact ⟨s6, s7, (.int .i64 (k : Int)), s18, s19, s20, s21, rfl, hbw, (fun _ => rfl), (fun h => c1 (bit_ne h (by decide))), (fun h => c2 (bit_ne h (by decide))), (fun h => c3 (bit_ne h (by decide))), (fun h => c4 (bit_ne h (by decide))), (fun h h2 => c5 (bit_ne h (by decide)) (bit_ne h2 (by decide))), (fun h => c6 (bit_ne h (by decide))), (fun h => c7 (bit_ne h (by decide)))⟩
    · obtain rfl := Option.some.inj ho
      have hsz : 1 < listed.size := by rw [hls]; decide
      have hdep0 : listed.getD 0 false = true := hall ⟨0, .data⟩ (by simp) (by rfl)
      obtain rfl := c0 hdep0
      have hbw := hbW
      refine inv_val (w' := w) (.int .i64 ((k : Int) + 8)) rfl rfl (by have hq := hwr; go_simp) ?_
      exact ⟨s6, s7, (.int .i64 (k : Int)), (.int .i64 ((k : Int) + 8)), s19, s20, s21, rfl, hbw, (fun h => c0 (bit_ne h (by decide))), (fun _ => rfl), (fun h => c2 (bit_ne h (by decide))), (fun h => c3 (bit_ne h (by decide))), (fun h => c4 (bit_ne h (by decide))), (fun h h2 => c5 (bit_ne h (by decide)) (bit_ne h2 (by decide))), (fun h => c6 (bit_ne h (by decide))), (fun h => c7 (bit_ne h (by decide)))⟩
    · obtain rfl := Option.some.inj ho
      have hsz : 2 < listed.size := by rw [hls]; decide
      have hdep1 : listed.getD 1 false = true := hall ⟨1, .data⟩ (by simp) (by rfl)
      obtain rfl := c1 hdep1
      have hbw : Below B w1 (w.alloc (.cells (v8 (zer (k + 8))) 5)) := hbW.alloc (hsB hbW) _
      refine inv_val (.slice (some ⟨w.heap.size, 0, none⟩) (k + 8) (k + 8)) (w' := w.alloc (.cells (v8 (zer (k + 8))) 5)) rfl rfl (by have hq := hmk w; go_simp) ?_
      exact ⟨s6, s7, s17, (.int .i64 ((k : Int) + 8)), (.slice (some ⟨w.heap.size, 0, none⟩) (k + 8) (k + 8)), s20, s21, rfl, hbw, (fun h => c0 (bit_ne h (by decide))), (fun h => c1 (bit_ne h (by decide))), (fun _ => LitS.new w B (hsB hbW) (k + 8) (zer (k + 8)) (by simp [zer_length])), (fun h => c3 (bit_ne h (by decide))), (fun h => c4 (bit_ne h (by decide))), (fun h h2 => (c5 (bit_ne h (by decide)) (bit_ne h2 (by decide))).alloc _), (fun h => (c6 (bit_ne h (by decide))).alloc _), (fun h => (c7 (bit_ne h (by decide))).alloc _)⟩
    · obtain rfl := Option.some.inj ho
      have hsz : 3 < listed.size := by rw [hls]; decide
      have hbw := hbW
      refine inv_val (w' := w) (.int .i64 n) rfl rfl rfl ?_
      exact ⟨s6, s7, s17, s18, s19, (.int .i64 n), s21, rfl, hbw, (fun h => c0 (bit_ne h (by decide))), (fun h => c1 (bit_ne h (by decide))), (fun h => c2 (bit_ne h (by decide))), (fun _ => rfl), (fun h => c4 (bit_ne h (by decide))), (fun h h2 => c5 (bit_ne h (by decide)) (bit_ne h2 (by decide))), (fun h => c6 (bit_ne h (by decide))), (fun h => c7 (bit_ne h (by decide)))⟩
    · obtain rfl := Option.some.inj ho
      have hsz : 4 < listed.size := by rw [hls]; decide
      have hdep3 : listed.getD 3 false = true := hall ⟨3, .data⟩ (by simp) (by rfl)
      obtain rfl := c3 hdep3
      refine inv_call 32 #[.int .i64 n] _ rfl rfl (by kernel_rfl) (hrec w) ?_
      rintro e w' ⟨rfl, hb⟩
      have hbw : Below B w1 w' := hbW.trans (hb.mono (hsB hbW))
      refine ⟨_, rfl, ?_⟩
      exact ⟨s6, s7, s17, s18, s19, (.int .i64 n), ((.agg (v8 R))), rfl, hbw, (fun h => c0 (bit_ne h (by decide))), (fun h => c1 (bit_ne h (by decide))), (fun h => (c2 (bit_ne h (by decide))).below hb), (fun h => c3 (bit_ne h (by decide))), (fun _ => rfl), (fun h h2 => (c5 (bit_ne h (by decide)) (bit_ne h2 (by decide))).below hb), (fun h => (c6 (bit_ne h (by decide))).below hb), (fun h => (c7 (bit_ne h (by decide))).below hb)⟩
    · obtain rfl := Option.some.inj ho
      have hsz : 5 < listed.size := by rw [hls]; decide
      have hbw : Below B w1 (w.alloc (.cells (v8 (zer 8)) 67)) := hbW.alloc (hsB hbW) _
      refine inv_val (.pointer (some ⟨w.heap.size, 0, none⟩)) (w' := w.alloc (.cells (v8 (zer 8)) 67)) rfl rfl (by kernel_rfl) ?_
      exact ⟨s6, (.pointer (some ⟨w.heap.size, 0, none⟩)), s17, s18, s19, s20, s21, rfl, hbw, (fun h => c0 (bit_ne h (by decide))), (fun h => c1 (bit_ne h (by decide))), (fun h => (c2 (bit_ne h (by decide))).alloc _), (fun h => c3 (bit_ne h (by decide))), (fun h => c4 (bit_ne h (by decide))), (fun _ _ => VarS.new w B (hsB hbW) _ _), (fun h => (c6 (bit_ne h (by decide))).alloc _), (fun h => absurd (hcl 7 _ rfl (bit_ne h (by decide)) ⟨5, .data⟩ (by simp) rfl) (by rw [hi]; decide))⟩
    · obtain rfl := Option.some.inj ho
      have hsz : 6 < listed.size := by rw [hls]; decide
      have hdep2 : listed.getD 2 false = true := hall ⟨2, .data⟩ (by simp) (by rfl)
      obtain ⟨b2, rfl, r2, hb2⟩ := c2 hdep2
      have hbw := hbW
      refine inv_val (w' := w) (.slice (some ⟨b2, 0, none⟩) (k + 8) (k + 8)) rfl rfl rfl ?_
      exact ⟨(.slice (some ⟨b2, 0, none⟩) (k + 8) (k + 8)), s7, s17, s18, (.slice (some ⟨b2, 0, none⟩) (k + 8) (k + 8)), s20, s21, rfl, hbw, (fun h => c0 (bit_ne h (by decide))), (fun h => c1 (bit_ne h (by decide))), (fun h => c2 (bit_ne h (by decide))), (fun h => c3 (bit_ne h (by decide))), (fun h => c4 (bit_ne h (by decide))), (fun h h2 => c5 (bit_ne h (by decide)) (bit_ne h2 (by decide))), (fun _ => ⟨b2, rfl, r2, hb2⟩), (fun h => c7 (bit_ne h (by decide)))⟩
    · obtain rfl := Option.some.inj ho
      have hsz : 7 < listed.size := by rw [hls]; decide
      have hdep5 : listed.getD 5 false = true := hall ⟨5, .data⟩ (by simp) (by rfl)
      have hdep4 : listed.getD 4 false = true := hall ⟨4, .data⟩ (by simp) (by rfl)
      obtain rfl := c4 hdep4
      obtain ⟨bV, rfl, rV, hbV⟩ := c5 hdep5 hi
      refine inv_store 67 (.tmp 7) (.tmp 21) rfl rfl rfl rfl bV R rfl rfl 67 (zer 8) rV (info67 hR) (by rw [hR]; rfl) ?_
      have hbw : Below B w1 (w.setRow bV (v8 R)) := below_setRow hbW hbV _
      exact ⟨s6, (.pointer (some ⟨bV, 0, none⟩)), s17, s18, s19, s20, ((.agg (v8 R))), rfl, hbw, (fun h => c0 (bit_ne h (by decide))), (fun h => c1 (bit_ne h (by decide))), (fun h => (c2 (bit_ne h (by decide))).setVar rV (by decide)), (fun h => c3 (bit_ne h (by decide))), (fun h => c4 (bit_ne h (by decide))), (fun _ h2 => absurd (bit_on hsz) (by rw [h2]; decide)), (fun h => (c6 (bit_ne h (by decide))).setVar rV (by decide)), (fun _ => ⟨bV, rfl, rV.setRow _, hbV⟩)⟩
  · intro listed a w hall hJ
    obtain ⟨s6, s7, s17, s18, s19, s20, s21, rfl, hbW, c0, c1, c2, c3, c4, c5, c6, c7⟩ := hJ
    obtain rfl := c0 (hall 0 (by decide))
    obtain rfl := c1 (hall 1 (by decide))
    obtain ⟨b2, rfl, r2, hb2⟩ := c2 (hall 2 (by decide))
    obtain rfl := c3 (hall 3 (by decide))
    obtain rfl := c4 (hall 4 (by decide))
    obtain ⟨b6, rfl, r6, hb6⟩ := c6 (hall 6 (by decide))
    obtain ⟨b7, rfl, r7, hb7⟩ := c7 (hall 7 (by decide))
    replace hL := hL.below hbW (by omega)
    replace hD : Dk w g h d := hD.fr ((Fr.of_below (l := []) (hB ▸ hbW))) (by simp) (by simp)
    replace hF0 := hF0.trans (Fr.of_below (hB ▸ hbW))
    clear c0 c1 c2 c3 c4 c6 c7 hall
    have hbb6 : w1.heap.size ≤ b6 := hB ▸ hb6
    clear hB hbW hmk hsB r2 c5 hb2 hb6 hb7 listed hrec hB0 hand
    generalize w = w2 at *
    have hkk : ¬ (k + 8 = k) := by omega
    have hki : (k : Int) ≤ (k : Int) + 8 := by omega
    go_wp2
    refine wp_region_quiet_tail 4 (by kernel_rfl) (by kernel_rfl) ?_
    simp only [List.take_succ_cons, List.take_zero, List.drop_succ_cons, List.drop_zero]
    repeat (go_big_quiet_step (fail))
    refine wpQuiet_nil ?_
    rintro _ ⟨nq, rfl⟩
    refine copy8 (w := w2.drewN nq) (.tmp 24) (.tmp 25) 38 38 (by rfl) (by rfl) 5 Try.underlying38 (by kernel_rfl) (some ⟨b6, k, none⟩) (some ⟨b7, 0, none⟩) 8 8 8 8 (by first | rfl | (simp; done)) (by rfl) b6 k (zer (k + 8)) 5 (r6.drewN nq) R (by rw [hR]; rfl) (fun _ => rfl) ((r7.drewN nq).bytes) (by rw [hR, zer_length]; omega) ?_
    simp only [Act.put, List.setIfInBounds_toArray, List.set_cons_succ, List.set_cons_zero]
    have hspl : spl (zer (k + 8)) k R = B8 := by
      rw [hrow]; unfold spl zer; rw [hR]; simp
    rw [hspl]
    have u6 := (r6.drewN nq).setRow (v8 B8)
    have uF : Fr [b6] w2 ((w2.drewN nq).setRow b6 (v8 B8)) := ⟨rfl, rfl, rfl, by simp [World.setRow, World.drewN], fun x _ hn => setRow_other (w2.drewN nq) b6 x _ (fun e => hn (by simp [e]))⟩
    replace hL := hL.fr uF (by simp; omega)
    replace hD := hD.fr uF (by simp; omega) (by simp; omega)
    replace hF0 := hF0.step uF (fun x hx => by simp at hx; omega)
    generalize (w2.drewN nq).setRow b6 (v8 B8) = w4 at *
    clear uF r6 r7 hspl
    have hap4 := hap w4 (some ⟨b6, 0, none⟩) hD u6.bytes (fun h => by cases h)
    have q0 : w4.cell? ⟨a, 0, none⟩ = some (.pointer (some ⟨g, 0, none⟩)) := hL.cell
    have hs4 := hF0.size
    clear hap u6 hbb6
    by_cases hE : E1 = 0
    · subst hE
      obtain ⟨hV⟩ : Nonempty (sErr d2 = V) := ⟨by have h9 : _ = V := hV; simpa using h9⟩
      obtain ⟨hF⟩ : Nonempty (dSync d2 = F) := ⟨by have h9 : _ = F := hF; simpa using h9⟩
      simp only [hV, hF] at hsy
      clear hV hF
      go_wp2_with (first | (go_at_call 19; (with_reducible refine Calls.mono hap4 ?_); rintro e w5 ⟨rfl, h5, hD5, hF5, hor5⟩; have hL5 := hL.fr hF5 (by simp; omega); have q5 : w5.cell? ⟨a, 0, none⟩ = some (.pointer (some ⟨g, 0, none⟩)) := hL5.cell) | (go_at_call 33; (with_reducible refine Calls.mono (hsy _ _ hD5) ?_); rintro e w6 ⟨rfl, hD6, hF6⟩))
      go_ret
      refine ⟨rfl, h5, hD6, (hF0.trans hF5).trans (hF6.mono (by simp)), ?_⟩
      rcases hor5 with h1 | h1
      · exact .inl h1
      · exact .inr (by omega)
    · obtain rfl : E1 = V := by have h9 : _ = V := hV; simpa [hE] using h9
      obtain rfl : d2 = F := by have h9 : _ = F := hF; simpa [hE] using h9
      clear hV hF hsy
      have hE' : (E1 != 0) = true := by simp [hE]
      go_wp2_with (go_at_call 19; (with_reducible refine Calls.mono hap4 ?_); rintro e w5 ⟨rfl, h5, hD5, hF5, hor5⟩)
      go_ret
      refine ⟨rfl, h5, hD5, hF0.trans hF5, ?_⟩
      rcases hor5 with h1 | h1
      · exact .inl h1
      · exact .inr (by omega)
end Go.Proofs.Ytmfcildkkeeneaa
