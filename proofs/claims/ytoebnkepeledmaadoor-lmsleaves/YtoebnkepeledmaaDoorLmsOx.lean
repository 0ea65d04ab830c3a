/- A leaf's signature in lms. No old memory turns. -/
import Derived.Test.YtoebnkepeledmaaDoorLmsNx
namespace Go.Proofs.YtoebnkepeledmaaDoor
open Go Go.RowKit

/-- What lies beside the way up from leaf q. -/
def pathF (N : Nat → List Int) (r i : Nat) : List Int := N ((r / 2 ^ i) ^^^ 1)
/-- A leaf's signature. -/
def lsigL (S : List Int → List Int) (nm seed : List Int) (h q : Nat) (msg : List Int) : List Int :=
  n4 (q : Int) ++ sigL S (nm ++ n4 (q : Int)) seed msg ++ n4 (h : Int) ++ catN (pathF (nodeN S nm seed (2 ^ h)) (2 ^ h + q)) h
theorem cutBytes {w : World} {g : Nat} {t : TypeId} {A : List Int} (h : Row w g t (v8 A)) (r : Nat) (hr : 32 * r + 32 ≤ A.length) : Bytes w (some ⟨g, r * 32, none⟩) (cutN A r) := fun _ =>
  ⟨g, r * 32, rfl, fun j hj => by
    have hl := cutN_len hr
    have e : gi (cutN A r) j = gi A (r * 32 + j) := by
      unfold gi cutN
      rw [List.getD_eq_getElem?_getD, List.getD_eq_getElem?_getD, List.getElem?_take_of_lt (by omega), List.getElem?_drop, Nat.mul_comm]
    rw [h.cell8 (by omega), e]⟩
theorem xor_one (r : Nat) (h : r < 64) : bits .xor .i64 (r : Int) 1 = ((r ^^^ 1 : Nat) : Int) := by
  have h2 : ∀ m : Fin 64, bits .xor .i64 (m.val : Int) 1 = ((m.val ^^^ 1 : Nat) : Int) := by decide +kernel
  exact h2 ⟨r, h⟩
theorem xor_lt (r n : Nat) (h1 : 2 ≤ r) (h2 : r < 2 * n) : 1 ≤ r ^^^ 1 ∧ r ^^^ 1 < 2 * n := by
  have e : (r ^^^ 1) / 2 = r / 2 := by
    rw [Nat.xor_div_two]; simp
  have := Nat.div_add_mod (r ^^^ 1) 2
  have := Nat.mod_lt (r ^^^ 1) (show 0 < 2 by decide)
  omega
theorem pathF_len {N : Nat → List Int} (hN : ∀ r, (N r).length = 32) (r : Nat) : ∀ i, (pathF N r i).length = 32 := fun _ => hN _
theorem lsigL_len {S : List Int → List Int} (hS : ∀ l, (S l).length = 32) (nm seed : List Int) (h q : Nat) (msg : List Int) : (lsigL S nm seed h q msg).length = 4300 + 32 * h := by
  unfold lsigL
  rw [List.length_append, List.length_append, List.length_append, n4_len, n4_len, sigL_len hS, catN_len (pathF_len (nodeN_len hS nm seed (2 ^ h)) (2 ^ h + q))]
set_option maxRecDepth 20000 in
set_option maxHeartbeats 1000000 in
theorem lSign_any (S : List Int → List Int) (hS : Hash S) (nm seed msg : List Int) (h q : Nat) (mp : Option Addr) (ml mc : Nat) (w0 : World) (hL : Laid w0) (hn : nm.length = 16) (hs : seed.length = 32) (hml : msg.length = ml) (hmm : ml ≤ 1000000) (hmb : Bytes w0 mp msg) (h1 : 1 ≤ h) (h5 : h ≤ 5) (hq : q < 2 ^ h) :
    Calls Tryd.prog 25 #[.agg (v8 nm), .agg (v8 seed), .int .i64 (h : Int), .int .i64 (q : Int), .slice mp ml mc] w0 fun e w' => ∃ g, e = .returned (.tuple #[.slice (some ⟨g, 0, none⟩) (4300 + 32 * h) (4300 + 32 * h), .int .i64 0]) ∧ w0.heap.size ≤ g ∧ Row w' g 5 (v8 (lsigL S nm seed h q msg)) ∧ Below w0.heap.size w0 w' := by
  have hih := fun wx => isHeight_any h wx
  rw [decide_eq_true (show 1 ≤ (h : Int) ∧ (h : Int) ≤ 5 by omega)] at hih
  have hlv := fun wx => leaves_any h wx h1 h5
  have hsz := fun wx => sigSize_any h wx (by omega)
  have hgr := fun wx hl => grow_any S hS nm seed h wx hl hn hs h1 h5
  have hn32 : 2 ≤ 2 ^ h ∧ 2 ^ h ≤ 32 := by
    rcases (by omega : h = 1 ∨ h = 2 ∨ h = 3 ∨ h = 4 ∨ h = 5) with rfl | rfl | rfl | rfl | rfl <;> decide
  have hdiv : ∀ i, i < h → 2 ≤ (2 ^ h + q) / 2 ^ i ∧ (2 ^ h + q) / 2 ^ i < 2 * 2 ^ h := fun i hi => by
    constructor
    · rw [Nat.le_div_iff_mul_le (Nat.two_pow_pos i)]
      have : 2 * 2 ^ i ≤ 2 ^ h := by rw [Nat.mul_comm, ← Nat.pow_succ]; exact Nat.pow_le_pow_right (by decide) hi
      omega
    · exact Nat.lt_of_le_of_lt (Nat.div_le_self _ _) (by omega)
  have hSi : ∀ wx, Laid wx → Bytes wx mp msg → Calls Tryd.prog 17 #[.agg (v8 nm), .int .i64 (q : Int), .agg (v8 seed), .slice mp ml mc] wx fun e w' => ∃ sp cap, e = .returned (.slice sp 4292 cap) ∧ Own8 w' wx.heap.size 5 (.slice sp 4292 cap) (sigL S (nm ++ n4 (q : Int)) seed msg) ∧ Below wx.heap.size wx w' := fun wx hl hb =>
    (Sign_any S hS nm seed msg q mp ml mc wx hl hn hs hml (by omega) hb).mono fun e w' ⟨g, he, hg, hr, hb2⟩ => ⟨_, _, he, (own8_row hr (sigL_len (fun l => hS.len l) _ _ _) (by unfold maxLen; omega)).mono hg, hb2⟩
  have hSGl : (sigL S (nm ++ n4 (q : Int)) seed msg).length = 4292 := sigL_len (fun l => hS.len l) _ _ _
  have hNl := nodeN_len (fun l => hS.len l) nm seed (2 ^ h)
  unfold lsigL
  generalize sigL S (nm ++ n4 (q : Int)) seed msg = SG at *
  generalize nodeN S nm seed (2 ^ h) = N at *
  generalize hnn : 2 ^ h = n at *
  have hTl := treeL_len hNl n
  have hTc : ∀ r, 1 ≤ r → r < 2 * n → cutN (treeL N n) r = N r := fun r h1 h2 => treeL_cut hNl n r h1 h2 (by omega)
  generalize treeL N n = TR at *
  obtain ⟨M, hM⟩ : ∃ M : Nat, 4300 + 32 * h = M := ⟨_, rfl⟩
  have hMI : (4300 : Int) + (h : Int) * 32 = (M : Int) := by omega
  rw [hM]
  have hMb : 4332 ≤ M ∧ M ≤ 4460 := by omega
  have hMh : Hid (4300 + 32 * h = M) := hM
  clear hM
  have hmk := make8 M (by omega)
  have hqI : (q : Int) < (n : Int) := by omega
  have hqg : ¬ ((n : Int) ≤ (q : Int)) := by omega
  clear hnn
  obtain ⟨R, hR⟩ : ∃ R, n + q = R := ⟨_, rfl⟩
  have hRI : (n : Int) + (q : Int) = (R : Int) := by omega
  rw [hR] at hdiv ⊢
  clear hR
  have hqd : decide ((q : Int) ≥ (n : Int)) = false := decide_eq_false (by omega)
  have hq0 : decide ((q : Int) < 0) = false := decide_eq_false (by omega)
  go_enter Tryd.func25, Tryd.ntmps25
  go_upto_region 1 with fail
  have r0 : Row (World.alloc (World.alloc w0 (.cells (v8 nm) 22)) (.cells (v8 seed) 24)) w0.heap.size 22 (v8 nm) := (Row.new _ _ _).alloc _
  have r1 : Row (World.alloc (World.alloc w0 (.cells (v8 nm) 22)) (.cells (v8 seed) 24)) (w0.heap.size + 1) 24 (v8 seed) := Row.newAt _ _ _ _ (by simp)
  have b1 : Below w0.heap.size w0 (World.alloc (World.alloc w0 (.cells (v8 nm) 22)) (.cells (v8 seed) 24)) := ((Below.refl _ _).alloc (Nat.le_refl _) _).alloc (by simp) _
  change Code.wp _ _ _ _ ((World.alloc (World.alloc w0 (.cells (v8 nm) 22)) (.cells (v8 seed) 24)))
  generalize (World.alloc (World.alloc w0 (.cells (v8 nm) 22)) (.cells (v8 seed) 24)) = w1 at r0 r1 b1 ⊢
  go_upto_region 6 with (first | (go_at_call 44; (with_reducible refine Calls.mono (hih _) ?_); rintro e w2 ⟨rfl, hw⟩; obtain rfl := hw.symm; clear hw) | (go_at_call 49; (with_reducible refine Calls.mono (hlv _) ?_); rintro e w2 ⟨rfl, hw⟩; obtain rfl := hw.symm; clear hw) | (go_at_call 50; (with_reducible refine Calls.mono (hsz _) ?_); rintro e w2 ⟨rfl, hw⟩; obtain rfl := hw.symm; clear hw))
  have x0 := r0.alloc (.cells (v8 (List.replicate M 0)) 5)
  have x1 := r1.alloc (.cells (v8 (List.replicate M 0)) 5)
  have xs : Row (w1.alloc (.cells (v8 (List.replicate M 0)) 5)) w1.heap.size 5 (v8 (List.replicate M 0)) := Row.new _ _ _
  have xb := b1.alloc b1.size (.cells (v8 (List.replicate M 0)) 5)
  have hr1 := r1.lt
  have hb1s := b1.size
  obtain ⟨gs, hgs⟩ : ∃ gs, gs = w1.heap.size := ⟨_, rfl⟩
  have hgs2 : w0.heap.size + 1 < gs := by omega
  change Code.wp _ _ _ _ (w1.alloc (.cells (v8 (List.replicate M 0)) 5))
  rw [← hgs] at xs ⊢
  generalize w1.alloc (.cells (v8 (List.replicate M 0)) 5) = w2 at x0 x1 xs xb ⊢
  clear r0 r1 b1 hgs hr1 hb1s hih hsz hmk
  have hp1 := putNumber_any (List.replicate M 0) q gs 0 M M 5 w2 xs (by rw [List.length_replicate]; omega) (by omega)
  have e1 : spl (List.replicate M 0) 0 (n4 (q : Int)) = n4 (q : Int) ++ List.replicate (M - 4) 0 := by rw [spl_zero]; rfl
  rw [e1] at hp1
  go_upto_region 7 with (go_at_call 51; (with_reducible refine Calls.mono hp1 ?_); rintro e w3 ⟨rfl, zs, f3⟩)
  have z0 := x0.fr f3 (by simp; omega)
  have z1 := x1.fr f3 (by simp; omega)
  have zb := xb.trans (f3.below (by simp; omega) xb.size)
  clear x0 x1 xs xb f3 hp1 e1
  have hz0 := z0.lt
  have hz1 := z1.lt
  have hzs := zs.lt
  have hzb := zb.size
  have hM4 : (4 : Int) ≤ (M : Int) := by omega
  have hM4' : ¬ (M = 4) := by omega
  obtain ⟨B, hB⟩ : ∃ B, B = w3.heap.size := ⟨_, rfl⟩
  have hsB : ∀ {w : World}, Below B w3 w → B ≤ w.heap.size := fun h => by have := h.size; omega
  refine region_invF 7 (by kernel_rfl) (by kernel_rfl) (fun a0 listed a w => ∃ s33 s34 s35 s36 s37 s38 s39, a = (Act.put (Act.put (Act.put (Act.put (Act.put (Act.put (Act.put a0 (some 33) s33) (some 34) s34) (some 35) s35) (some 36) s36) (some 37) s37) (some 38) s38) (some 39) s39) ∧ Below B w3 w ∧ (listed.getD 0 false = true → s33 = .slice (some ⟨gs, 0, none⟩) M M) ∧ (listed.getD 1 false = true → s34 = .slice (some ⟨gs, 4, none⟩) (M - 4) (M - 4)) ∧ (listed.getD 2 false = true → s35 = .agg (v8 nm)) ∧ (listed.getD 3 false = true → s36 = .int .i64 (q : Int)) ∧ (listed.getD 4 false = true → s37 = .agg (v8 seed)) ∧ (listed.getD 5 false = true → s38 = .slice mp ml mc) ∧ (listed.getD 6 false = true → OwnS w B s39 4292 SG)) ?_ ?_ ?_
  all_goals simp only [Act.put, List.setIfInBounds_toArray, List.set_cons_succ, List.set_cons_zero]
  · exact ⟨_, _, _, _, _, _, _, rfl, (Below.refl B _).drew, (fun h => absurd h (by rw [getD_replicate_false]; decide)), (fun h => absurd h (by rw [getD_replicate_false]; decide)), (fun h => absurd h (by rw [getD_replicate_false]; decide)), (fun h => absurd h (by rw [getD_replicate_false]; decide)), (fun h => absurd h (by rw [getD_replicate_false]; decide)), (fun h => absurd h (by rw [getD_replicate_false]; decide)), (fun h => absurd h (by rw [getD_replicate_false]; decide))⟩
  · intro listed a w i o hls hJ hin ho hi hall hcl
    obtain ⟨s33, s34, s35, s36, s37, s38, s39, rfl, hbW, c0, c1, c2, c3, c4, c5, c6⟩ := hJ
    rcases (by omega : i = 0 ∨ i = 1 ∨ i = 2 ∨ i = 3 ∨ i = 4 ∨ i = 5 ∨ i = 6) with rfl | rfl | rfl | rfl | rfl | rfl | rfl
    · obtain rfl := Option.some.inj ho
      have hsz : 0 < listed.size := by rw [hls]; decide
      have hbw := hbW
      refine inv_val (w' := w) (.slice (some ⟨gs, 0, none⟩) M M) rfl rfl rfl ?_
      exact ⟨(.slice (some ⟨gs, 0, none⟩) M M), s34, s35, s36, s37, s38, s39, rfl, hbw, (fun _ => rfl), (fun h => c1 (bit_ne h (by decide))), (fun h => c2 (bit_ne h (by decide))), (fun h => c3 (bit_ne h (by decide))), (fun h => c4 (bit_ne h (by decide))), (fun h => c5 (bit_ne h (by decide))), (fun h => c6 (bit_ne h (by decide)))⟩
    · obtain rfl := Option.some.inj ho
      have hsz : 1 < listed.size := by rw [hls]; decide
      have hdep0 : listed.getD 0 false = true := hall ⟨0, .data⟩ (by simp) (by rfl)
      obtain rfl := c0 hdep0
      have hbw := hbW
      refine inv_val (w' := w) (.slice (some ⟨gs, 4, none⟩) (M - 4) (M - 4)) rfl rfl (by go_simp) ?_
      exact ⟨(.slice (some ⟨gs, 0, none⟩) M M), (.slice (some ⟨gs, 4, none⟩) (M - 4) (M - 4)), s35, s36, s37, s38, s39, rfl, hbw, (fun h => c0 (bit_ne h (by decide))), (fun _ => rfl), (fun h => c2 (bit_ne h (by decide))), (fun h => c3 (bit_ne h (by decide))), (fun h => c4 (bit_ne h (by decide))), (fun h => c5 (bit_ne h (by decide))), (fun h => c6 (bit_ne h (by decide)))⟩
    · obtain rfl := Option.some.inj ho
      have hsz : 2 < listed.size := by rw [hls]; decide
      have hbw := hbW
      refine inv_val (w' := w) (.agg (v8 nm)) rfl rfl (exec_load_row 22 (.tmp 5) rfl w0.heap.size rfl 22 _ _ (z0.below hbW (by omega)) Tryd.underlying22 rfl (name_info hn)) ?_
      exact ⟨s33, s34, (.agg (v8 nm)), s36, s37, s38, s39, rfl, hbw, (fun h => c0 (bit_ne h (by decide))), (fun h => c1 (bit_ne h (by decide))), (fun _ => rfl), (fun h => c3 (bit_ne h (by decide))), (fun h => c4 (bit_ne h (by decide))), (fun h => c5 (bit_ne h (by decide))), (fun h => c6 (bit_ne h (by decide)))⟩
    · obtain rfl := Option.some.inj ho
      have hsz : 3 < listed.size := by rw [hls]; decide
      have hbw := hbW
      refine inv_val (w' := w) (.int .i64 (q : Int)) rfl rfl rfl ?_
      exact ⟨s33, s34, s35, (.int .i64 (q : Int)), s37, s38, s39, rfl, hbw, (fun h => c0 (bit_ne h (by decide))), (fun h => c1 (bit_ne h (by decide))), (fun h => c2 (bit_ne h (by decide))), (fun _ => rfl), (fun h => c4 (bit_ne h (by decide))), (fun h => c5 (bit_ne h (by decide))), (fun h => c6 (bit_ne h (by decide)))⟩
    · obtain rfl := Option.some.inj ho
      have hsz : 4 < listed.size := by rw [hls]; decide
      have hbw := hbW
      refine inv_val (w' := w) (.agg (v8 seed)) rfl rfl (exec_load_row 24 (.tmp 6) rfl (w0.heap.size + 1) rfl 24 _ _ (z1.below hbW (by omega)) Tryd.underlying24 rfl (id_info hs)) ?_
      exact ⟨s33, s34, s35, s36, (.agg (v8 seed)), s38, s39, rfl, hbw, (fun h => c0 (bit_ne h (by decide))), (fun h => c1 (bit_ne h (by decide))), (fun h => c2 (bit_ne h (by decide))), (fun h => c3 (bit_ne h (by decide))), (fun _ => rfl), (fun h => c5 (bit_ne h (by decide))), (fun h => c6 (bit_ne h (by decide)))⟩
    · obtain rfl := Option.some.inj ho
      have hsz : 5 < listed.size := by rw [hls]; decide
      have hbw := hbW
      refine inv_val (w' := w) (.slice mp ml mc) rfl rfl rfl ?_
      exact ⟨s33, s34, s35, s36, s37, (.slice mp ml mc), s39, rfl, hbw, (fun h => c0 (bit_ne h (by decide))), (fun h => c1 (bit_ne h (by decide))), (fun h => c2 (bit_ne h (by decide))), (fun h => c3 (bit_ne h (by decide))), (fun h => c4 (bit_ne h (by decide))), (fun _ => rfl), (fun h => c6 (bit_ne h (by decide)))⟩
    · obtain rfl := Option.some.inj ho
      have hsz : 6 < listed.size := by rw [hls]; decide
      have hdep2 : listed.getD 2 false = true := hall ⟨2, .data⟩ (by simp) (by rfl)
      obtain rfl := c2 hdep2
      have hdep3 : listed.getD 3 false = true := hall ⟨3, .data⟩ (by simp) (by rfl)
      obtain rfl := c3 hdep3
      have hdep4 : listed.getD 4 false = true := hall ⟨4, .data⟩ (by simp) (by rfl)
      obtain rfl := c4 hdep4
      have hdep5 : listed.getD 5 false = true := hall ⟨5, .data⟩ (by simp) (by rfl)
      obtain rfl := c5 hdep5
      refine inv_call 17 #[.agg (v8 nm), .int .i64 (q : Int), .agg (v8 seed), .slice mp ml mc] _ rfl rfl (by kernel_rfl) (hSi w (hL.below (zb.trans (hbW.mono (by omega)))) (hmb.below (zb.trans (hbW.mono (by omega))))) ?_
      rintro e w' ⟨sp, cap, rfl, ow, hb⟩
      have hbw : Below B w3 w' := hbW.trans (hb.mono (hsB hbW))
      refine ⟨_, rfl, ?_⟩
      exact ⟨s33, s34, (.agg (v8 nm)), (.int .i64 (q : Int)), (.agg (v8 seed)), (.slice mp ml mc), (.slice sp 4292 cap), rfl, hbw, (fun h => c0 (bit_ne h (by decide))), (fun h => c1 (bit_ne h (by decide))), (fun h => c2 (bit_ne h (by decide))), (fun h => c3 (bit_ne h (by decide))), (fun h => c4 (bit_ne h (by decide))), (fun h => c5 (bit_ne h (by decide))), (fun _ => ⟨sp, cap, rfl, ow.mono (hsB hbW)⟩)⟩
  · intro listed a w hall hJ
    obtain ⟨s33, s34, s35, s36, s37, s38, s39, rfl, hbW, c0, c1, c2, c3, c4, c5, c6⟩ := hJ
    obtain rfl := c0 (hall 0 (by omega))
    obtain rfl := c1 (hall 1 (by omega))
    obtain rfl := c2 (hall 2 (by omega))
    obtain rfl := c3 (hall 3 (by omega))
    obtain rfl := c4 (hall 4 (by omega))
    obtain rfl := c5 (hall 5 (by omega))
    obtain ⟨sp6, cap6, rfl, o6⟩ := c6 (hall 6 (by omega))
    simp only [List.drop_succ_cons, List.drop_zero]
    have y0 := z0.below hbW (by omega)
    have y1 := z1.below hbW (by omega)
    have ys := zs.below hbW (by omega)
    have yb := zb.trans (hbW.mono (by omega))
    refine copy8 (w := w) (.tmp 34) (.tmp 39) 28 28 (by rfl) (by rfl) 5 Tryd.underlying28 (by kernel_rfl) (some ⟨gs, 4, none⟩) sp6 (M - 4) (M - 4) 4292 cap6 (by rfl) (by rfl) gs 4 (n4 (q : Int) ++ List.replicate (M - 4) 0) 5 ys SG (by rw [hSGl]; omega) (fun _ => rfl) o6.bytes (by rw [hSGl, List.length_append, List.length_replicate, n4_len]; omega) ?_
    simp only [Act.put, List.setIfInBounds_toArray, List.set_cons_succ, List.set_cons_zero]
    have e2 : spl (n4 (q : Int) ++ List.replicate (M - 4) 0) 4 SG = n4 (q : Int) ++ SG ++ List.replicate (M - 4296) 0 := by
      have := spl_mid (n4 (q : Int)) SG (M - 4)
      rw [n4_len, hSGl, show M - 4 - 4292 = M - 4296 by omega] at this
      exact this
    rw [e2]
    have u0 := y0.setRowOther (g := gs) (by omega) (v8 (n4 (q : Int) ++ SG ++ List.replicate (M - 4296) 0))
    have u1 := y1.setRowOther (g := gs) (by omega) (v8 (n4 (q : Int) ++ SG ++ List.replicate (M - 4296) 0))
    have us := ys.setRow (v8 (n4 (q : Int) ++ SG ++ List.replicate (M - 4296) 0))
    have ub := below_setRow (g := gs) yb (by omega) (v8 (n4 (q : Int) ++ SG ++ List.replicate (M - 4296) 0))
    generalize w.setRow gs (v8 (n4 (q : Int) ++ SG ++ List.replicate (M - 4296) 0)) = w5 at u0 u1 us ub ⊢
    clear y0 y1 ys yb z0 z1 zs zb hz0 hz1 hzs hzb hbW hsB hB hall o6 e2 hSi hmb
    have hA2 : (n4 (q : Int) ++ SG).length = 4296 := by rw [List.length_append, n4_len, hSGl]
    have hp2 := putNumber_any (n4 (q : Int) ++ SG ++ List.replicate (M - 4296) 0) h gs 4296 (M - 4296) (M - 4296) 5 w5 us (by rw [List.length_append, hA2, List.length_replicate]; omega) (by omega)
    have e3 : spl (n4 (q : Int) ++ SG ++ List.replicate (M - 4296) 0) 4296 (n4 (h : Int)) = n4 (q : Int) ++ SG ++ n4 (h : Int) ++ List.replicate (M - 4300) 0 := by
      have := spl_mid (n4 (q : Int) ++ SG) (n4 (h : Int)) (M - 4296)
      rw [hA2, n4_len, show M - 4296 - 4 = M - 4300 by omega] at this
      exact this
    rw [e3] at hp2
    have hM96 : (4296 : Int) ≤ (M : Int) := by omega
    have hM96' : ¬ (M = 4296) := by omega
    have z2048 := zv2048
    go_upto_region 9 with (go_at_call 51; (with_reducible refine Calls.mono hp2 ?_); rintro e w6 ⟨rfl, vs, f6⟩)
    have v0 := u0.fr f6 (by simp; omega)
    have v1 := u1.fr f6 (by simp; omega)
    have vb := ub.trans (f6.below (by simp; omega) ub.size)
    clear u0 u1 us ub f6 hp2 e3
    go_upto_region 10 with (first | (refine wpList_load_row (by rfl) 22 (.tmp 5) (by rfl) w0.heap.size (by rfl) 22 (v8 nm) (0, 0) _ v0 Tryd.underlying22 rfl (name_info hn) ?_) | (refine wpList_load_row (by rfl) 24 (.tmp 6) (by rfl) (w0.heap.size + 1) (by rfl) 24 (v8 seed) (0, 0) _ v1 Tryd.underlying24 rfl (id_info hs) ?_) | (go_at_call 45; (with_reducible refine Calls.mono (hgr _ (hL.below vb)) ?_); rintro e w7 ⟨rfl, hb7⟩) | (go_at_call 49; (with_reducible refine Calls.mono (hlv _) ?_); rintro e w2 ⟨rfl, hw⟩; obtain rfl := hw.symm; clear hw) | (refine store_row0 77 (.tmp 13) (.tmp 48) (by rfl) (by rfl) (by rfl) w7.heap.size (v8 TR) (by rfl) (by rfl) 77 (v8 (zer 2048)) (Row.new w7 77 _) (nodes_info hTl) (by rw [v8_size, v8_size, hTl, zer_len]) (v8_one _) ?_))
    have hv7s := vs.lt
    have hv7b := vb.size
    have zt : Row ((w7.alloc (.cells (v8 (zer 2048)) 77)).setRow w7.heap.size (v8 TR)) w7.heap.size 77 (v8 TR) := (Row.new w7 77 _).setRow _
    have zs := ((vs.below hb7 vs.lt).alloc (.cells (v8 (zer 2048)) 77)).setRowOther (g := w7.heap.size) (by have := hb7.size; omega) (v8 TR)
    have zb : Below w0.heap.size w0 ((w7.alloc (.cells (v8 (zer 2048)) 77)).setRow w7.heap.size (v8 TR)) := below_setRow ((vb.trans (hb7.mono vb.size)).alloc (by have := hb7.size; omega) _) (by have := hb7.size; omega) _
    obtain ⟨gn, hgn⟩ : ∃ gn, gn = w7.heap.size := ⟨_, rfl⟩
    have hgn2 : gs < gn := by have := hb7.size; omega
    change Code.wp _ _ _ _ ((w7.alloc (.cells (v8 (zer 2048)) 77)).setRow w7.heap.size (v8 TR))
    rw [← hgn] at zt zs zb ⊢
    generalize (w7.alloc (.cells (v8 (zer 2048)) 77)).setRow gn (v8 TR) = w8 at zt zs zb ⊢
    clear hgn vs v0 v1 vb hb7 hgr hlv hv7s hv7b c0 c1 c2 c3 c4 c5 c6 hqd hq0 hM4 hM4' hM96 hM96' z2048 hqI hqg
    have hA3 : (n4 (q : Int) ++ SG ++ n4 (h : Int)).length = 4300 := by rw [List.length_append, hA2, n4_len]
    generalize hHD : n4 (q : Int) ++ SG ++ n4 (h : Int) = HD at *
    have hPl := pathF_len hNl R
    have hPx : ∀ i, pathF N R i = N ((R / 2 ^ i) ^^^ 1) := fun _ => rfl
    generalize hP : pathF N R = P at *
    go_wp2
    go_loopw [14, 54] (fun v c wr => ∃ i r : Nat, r = R / 2 ^ i ∧ v = .int .i64 (r : Int) ∧ c = .int .i64 (i : Int) ∧ i ≤ h ∧ Row wr gs 5 (v8 (HD ++ catN P i ++ List.replicate (M - 4300 - 32 * i) 0)) ∧ Row wr gn 77 (v8 TR) ∧ Below w0.heap.size w0 wr) (fun _ c _ => h - (intOf c).toNat)
    case atStart => exact ⟨0, R, by simp, rfl, rfl, by omega, by rw [catN, List.append_nil]; exact zs, zt, zb⟩
    case round =>
      clear zs zt zb
      obtain ⟨i, r, hr, rfl, rfl, hi, zs, zt, zb⟩ := hrel
      by_cases hlt : i < h
      · have hlt' : (i : Int) < (h : Int) := by omega
        have hdi := hdiv i hlt
        have hPi := hPx i
        have hnx : R / 2 ^ (i + 1) = r / 2 := by rw [hr, Nat.div_div_eq_div_mul, Nat.pow_succ]
        rw [← hr] at hdi hPi
        clear hr hPx
        have hxl := xor_lt r n hdi.1 hdi.2
        have hxo := xor_one r (by omega)
        obtain ⟨x, hx⟩ : ∃ x, r ^^^ 1 = x := ⟨_, rfl⟩
        rw [hx] at hxl hxo hPi
        clear hx
        have hcx := hTc x hxl.1 hxl.2
        rw [← hPi] at hcx
        clear hPi
        have hx64 : x < 64 := by omega
        have hr64 : r < 64 := by omega
        obtain ⟨r2, hr2⟩ : ∃ r2, r / 2 = r2 := ⟨_, rfl⟩
        have q1 : (r : Int).tdiv 2 = (r2 : Int) := by rw [Int.tdiv_eq_ediv_of_nonneg (by omega)]; omega
        have q2 : (r : Int) / 2 = (r2 : Int) := by omega
        rw [hr2] at hnx
        clear hr2
        have hM1 : 4300 + 32 * i + 32 ≤ M := by omega
        have hM2 : 4300 + (i : Int) * 32 ≤ (M : Int) := by omega
        go_upto_region 13 with fail
        refine wp_region_quiet_tail 9 (by kernel_rfl) (by kernel_rfl) ?_
        simp only [List.take_succ_cons, List.take_zero, List.drop_succ_cons, List.drop_zero]
        repeat (go_big_quiet_step (fail))
        refine wpQuiet_nil ?_
        rintro _ ⟨nq, rfl⟩
        have hcl : (HD ++ catN P i).length = 4300 + 32 * i := by rw [List.length_append, hA3, catN_len hPl]
        have e4 : spl (HD ++ catN P i ++ List.replicate (M - 4300 - 32 * i) 0) (4300 + i * 32) (P i) = HD ++ catN P (i + 1) ++ List.replicate (M - 4300 - 32 * (i + 1)) 0 := by
          have := spl_mid (HD ++ catN P i) (P i) (M - 4300 - 32 * i)
          rw [hcl, hPl, show 4300 + 32 * i = 4300 + i * 32 by omega, show M - 4300 - 32 * i - 32 = M - 4300 - 32 * (i + 1) by omega] at this
          rw [catN, ← List.append_assoc HD]; exact this
        have hsr : Bytes (wr.drewN nq) (some ⟨gn, x * 32, none⟩) (P i) := by
          have := cutBytes (zt.drewN nq) x (by omega)
          rwa [hcx] at this
        refine copy8 (w := wr.drewN nq) (.tmp 61) (.tmp 65) 28 28 (by rfl) (by rfl) 5 Tryd.underlying28 (by kernel_rfl) (some ⟨gs, 4300 + i * 32, none⟩) (some ⟨gn, x * 32, none⟩) (M - (4300 + i * 32)) (M - (4300 + i * 32)) 32 32 (by rfl) (by rfl) gs (4300 + i * 32) (HD ++ catN P i ++ List.replicate (M - 4300 - 32 * i) 0) 5 (zs.drewN nq) (P i) (by rw [hPl]; omega) (fun _ => rfl) hsr (by rw [List.length_append, hcl, List.length_replicate, hPl]; omega) ?_
        simp only [Act.put, List.setIfInBounds_toArray, List.set_cons_succ, List.set_cons_zero]
        rw [e4]
        have us := (zs.drewN nq).setRow (v8 (HD ++ catN P (i + 1) ++ List.replicate (M - 4300 - 32 * (i + 1)) 0))
        have ut := (zt.drewN nq).setRowOther (g := gs) (by omega) (v8 (HD ++ catN P (i + 1) ++ List.replicate (M - 4300 - 32 * (i + 1)) 0))
        have ub := below_setRow (g := gs) (below_drewN zb nq) (by omega) (v8 (HD ++ catN P (i + 1) ++ List.replicate (M - 4300 - 32 * (i + 1)) 0))
        generalize (wr.drewN nq).setRow gs (v8 (HD ++ catN P (i + 1) ++ List.replicate (M - 4300 - 32 * (i + 1)) 0)) = w9 at us ut ub ⊢
        clear zs zt zb e4 hsr hcl hcx hxl hxo hM1 hM2 hdi
        go_wp2
        go_roundw
        case rel => exact ⟨i + 1, r2, hnx.symm, by go_num, by go_num, by omega, us, ut, ub⟩
        case measure => simp [intOf]; omega
      · obtain rfl : i = h := by omega
        go_wp2
        go_ret2
        exact ⟨gs, rfl, by omega, by rw [show M - 4300 - 32 * i = 0 by omega, List.replicate_zero, List.append_nil, ← hHD, ← hP] at zs; exact zs, zb⟩
end Go.Proofs.YtoebnkepeledmaaDoor
