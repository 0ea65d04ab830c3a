/- A leaf's signature in the reference of lms. No old memory turns. -/
import Derived.Test.YtoebnkepeledmaaDoorLmsOx
import Derived.Test.YtoebnkepeledmaaDoorGk
import Derived.Test.YtoebnkepeledmaaDoorGm
namespace Go.Proofs.YtoebnkepeledmaaDoor
open Go Go.RowKit

theorem Own8.len8 {w : World} {B : Nat} {e : TypeId} {sp : Option Addr} {n cap : Nat} {l : List Int} (h : Own8 w B e (.slice sp n cap) l) : n = l.length := by
  obtain ⟨_, _, h⟩ := h.form
  injection h
set_option maxRecDepth 20000 in
set_option maxHeartbeats 2000000 in
theorem sixSign_any (S : List Int → List Int) (hS : Hash S) (nm seed msg : List Int) (h q : Nat) (mp : Option Addr) (ml mc : Nat) (w0 : World) (hn : nm.length = 16) (hs : seed.length = 32) (hml : msg.length = ml) (hmn : mp = none → mc = 0 ∧ ml = 0) (hmm : ml ≤ 1000000) (hmb : Bytes w0 mp msg) (h1 : 1 ≤ h) (h5 : h ≤ 5) (hq : q < 2 ^ h) :
    Calls Tryd.prog 26 #[.agg (v8 nm), .agg (v8 seed), .int .i64 (h : Int), .int .i64 (q : Int), .slice mp ml mc] w0 fun e w' => ∃ sp cap, e = .returned (.tuple #[.slice sp (4300 + 32 * h) cap, .int .i64 0]) ∧ Own8 w' w0.heap.size 5 (.slice sp (4300 + 32 * h) cap) (lsigL S nm seed h q msg) ∧ Below w0.heap.size w0 w' := by
  have htr := fun wx => six_tree_any S hS nm seed h wx hn hs h1 h5
  have hRS : ∀ wx, Bytes wx mp msg → Calls Tryd.prog 19 #[.agg (v8 nm), .int .i64 (q : Int), .agg (v8 seed), .slice mp ml mc] wx fun e w' => ∃ sp cap, e = .returned (.slice sp 4292 cap) ∧ Own8 w' wx.heap.size 5 (.slice sp 4292 cap) (sigL S (nm ++ n4 (q : Int)) seed msg) ∧ Below wx.heap.size wx w' := fun wx hb => rSign_any S hS nm seed msg q mp ml mc wx hn hs hml hmn hmm hb
  have hSGl : (sigL S (nm ++ n4 (q : Int)) seed msg).length = 4292 := sigL_len (fun l => hS.len l) _ _ _
  have hNl := nodeN_len (fun l => hS.len l) nm seed (2 ^ h)
  have hn32 : 2 ≤ 2 ^ h ∧ 2 ^ h ≤ 32 := by
    rcases (by omega : h = 1 ∨ h = 2 ∨ h = 3 ∨ h = 4 ∨ h = 5) with rfl | rfl | rfl | rfl | rfl <;> decide
  have h4 : ∀ wx, Calls Tryd.prog 48 #[.slice none 0 0, .int .i64 (q : Int)] wx fun e w' => ∃ sp cap, e = .returned (.slice sp 4 cap) ∧ Own8 w' wx.heap.size 5 (.slice sp 4 cap) (n4 (q : Int)) ∧ Below wx.heap.size wx w' := fun wx =>
    (six4_any [] q (.slice none 0 0) wx wx.heap.size ⟨rfl, .inl ⟨rfl, rfl⟩⟩ (by simp) (Nat.le_refl _)).mono fun e w' ⟨sp, cap, he, a1, a2, _, _⟩ => ⟨sp, cap, he, a1, a2⟩
  unfold lsigL
  generalize sigL S (nm ++ n4 (q : Int)) seed msg = SG at *
  generalize nodeN S nm seed (2 ^ h) = N at *
  obtain ⟨n, hnd⟩ : ∃ n, n = 2 ^ h := ⟨_, rfl⟩
  have hpw : wrap64 ((2 : Int) ^ h) = (n : Int) := by
    subst hnd
    rcases (by omega : h = 1 ∨ h = 2 ∨ h = 3 ∨ h = 4 ∨ h = 5) with rfl | rfl | rfl | rfl | rfl <;> decide +kernel
  obtain ⟨P, hP⟩ : ∃ P : Nat → Nat, ∀ i, (2 ^ h + q) / 2 ^ i = P i := ⟨_, fun _ => rfl⟩
  have f1 : Hid (∀ i, i < h → 2 ≤ P i ∧ P i < 2 * n) := fun i hi => by
    rw [← hP i, hnd]
    constructor
    · rw [Nat.le_div_iff_mul_le (Nat.two_pow_pos i)]
      have : 2 * 2 ^ i ≤ 2 ^ h := by rw [Nat.mul_comm, ← Nat.pow_succ]; exact Nat.pow_le_pow_right (by decide) hi
      omega
    · exact Nat.lt_of_le_of_lt (Nat.div_le_self _ _) (by omega)
  have f2 : Hid (P 0 = n + q) := by
    have := hP 0
    rw [Nat.pow_zero, Nat.div_one, ← hnd] at this
    exact this.symm
  have f3 : Hid (∀ i, P (i + 1) = P i / 2) := fun i => by rw [← hP i, ← hP (i + 1), Nat.pow_succ, Nat.div_div_eq_div_mul]
  have f4 : Hid (P h = 1) := by
    show P h = 1
    rw [← hP h, Nat.div_eq_iff (Nat.two_pow_pos h)]; omega
  obtain ⟨F, hF⟩ : ∃ F : Nat → List Int, pathF N (2 ^ h + q) = F := ⟨_, rfl⟩
  have f5 : Hid (∀ i, F i = N (P i ^^^ 1)) := fun i => by rw [← hF, ← hP i]; rfl
  have f6 : Hid (∀ i, (F i).length = 32) := fun i => by rw [← hF]; exact hNl _
  rw [hF]
  rw [← hnd] at htr hn32 hq
  clear hnd hF hP hNl
  have hn4 : (n4 (q : Int)).length = 4 := rfl
  have hA2 : (n4 (q : Int) ++ SG).length = 4296 := by rw [List.length_append, n4_len, hSGl]
  have hXl : Hid ((n4 (q : Int) ++ SG ++ n4 (h : Int)).length = 4300) := by
    show (n4 (q : Int) ++ SG ++ n4 (h : Int)).length = 4300
    rw [List.length_append, hA2, n4_len]
  have hqd : decide ((q : Int) ≥ (n : Int)) = false := decide_eq_false (by omega)
  have hq0 : decide ((q : Int) < 0) = false := decide_eq_false (by omega)
  have hlo : decide ((h : Int) < 1) = false := decide_eq_false (by omega)
  have hhi : decide ((h : Int) > 5) = false := decide_eq_false (by omega)
  have h4b : ∀ (B : Nat) wx sp cap, Own8 wx B 5 (.slice sp 4296 cap) (n4 (q : Int) ++ SG) → B ≤ wx.heap.size → Calls Tryd.prog 48 #[.slice sp 4296 cap, .int .i64 (h : Int)] wx fun e w' => ∃ sp cap, e = .returned (.slice sp 4300 cap) ∧ Own8 w' B 5 (.slice sp 4300 cap) (n4 (q : Int) ++ SG ++ n4 (h : Int)) ∧ Below B wx w' ∧ wx.heap.size ≤ w'.heap.size := fun B wx sp cap ho hB =>
    (six4_any (n4 (q : Int) ++ SG) h _ wx B ho (by omega) hB).mono fun e w' ⟨sp, cap, he, a1, a2, _, a4⟩ => by
      rw [hA2] at he a1
      exact ⟨sp, cap, he, a1, a2, a4⟩
  obtain ⟨X, hX⟩ : ∃ X, n4 (q : Int) ++ SG ++ n4 (h : Int) = X := ⟨_, rfl⟩
  rw [hX] at hXl ⊢
  simp only [hX] at h4b
  clear hX
  go_enter Tryd.func26, Tryd.ntmps26
  go_upto_region 1 with fail
  have r0 : Row (World.alloc (World.alloc w0 (.cells (v8 nm) 22)) (.cells (v8 seed) 24)) w0.heap.size 22 (v8 nm) := (Row.new _ _ _).alloc _
  have r1 : Row (World.alloc (World.alloc w0 (.cells (v8 nm) 22)) (.cells (v8 seed) 24)) (w0.heap.size + 1) 24 (v8 seed) := Row.newAt _ _ _ _ (by simp)
  have b1 : Below w0.heap.size w0 (World.alloc (World.alloc w0 (.cells (v8 nm) 22)) (.cells (v8 seed) 24)) := ((Below.refl _ _).alloc (Nat.le_refl _) _).alloc (by simp) _
  change Code.wp _ _ _ _ ((World.alloc (World.alloc w0 (.cells (v8 nm) 22)) (.cells (v8 seed) 24)))
  generalize (World.alloc (World.alloc w0 (.cells (v8 nm) 22)) (.cells (v8 seed) 24)) = w1 at r0 r1 b1 ⊢
  go_upto_region 6 with (first | (refine wpList_load_row (by rfl) 22 (.tmp 5) (by rfl) w0.heap.size (by rfl) 22 (v8 nm) (0, 0) _ r0 Tryd.underlying22 rfl (name_info hn) ?_) | (refine wpList_load_row (by rfl) 24 (.tmp 6) (by rfl) (w0.heap.size + 1) (by rfl) 24 (v8 seed) (0, 0) _ r1 Tryd.underlying24 rfl (id_info hs) ?_) | (go_at_call 47; (with_reducible refine Calls.mono (htr _) ?_); rintro e w2 ⟨gT, A, rfl, zT, hAl, hcut, hgT, hb2⟩))
  have z0 := r0.below hb2 r0.lt
  have z1 := r1.below hb2 r1.lt
  have zb := b1.trans (hb2.mono b1.size)
  clear r0 r1 b1 hb2 htr hlo hhi hqd hq0
  have hz0 := z0.lt
  have hz1 := z1.lt
  have hzT := zT.lt
  have hzb := zb.size
  obtain ⟨B, hB⟩ : ∃ B, B = w2.heap.size := ⟨_, rfl⟩
  have hsB : ∀ {w : World}, Below B w2 w → B ≤ w.heap.size := fun h => by have := h.size; omega
  replace h4b := h4b B
  refine region_invF 8 (by kernel_rfl) (by kernel_rfl) (fun a0 listed a w => ∃ s34 s35 s36 s37 s38 s39 s40 s41, a = (Act.put (Act.put (Act.put (Act.put (Act.put (Act.put (Act.put (Act.put a0 (some 34) s34) (some 35) s35) (some 36) s36) (some 37) s37) (some 38) s38) (some 39) s39) (some 40) s40) (some 41) s41) ∧ Below B w2 w ∧ (listed.getD 0 false = true → s34 = .int .i64 (q : Int)) ∧ (listed.getD 1 false = true → listed.getD 7 false = false → OwnS w B s35 4 (n4 (q : Int))) ∧ (listed.getD 2 false = true → s36 = .agg (v8 nm)) ∧ (listed.getD 3 false = true → s37 = .int .i64 (q : Int)) ∧ (listed.getD 4 false = true → s38 = .agg (v8 seed)) ∧ (listed.getD 5 false = true → s39 = .slice mp ml mc) ∧ (listed.getD 6 false = true → listed.getD 7 false = false → OwnS w B s40 4292 SG) ∧ (listed.getD 7 false = true → OwnS w B s41 4296 (n4 (q : Int) ++ SG))) ?_ ?_ ?_
  all_goals simp only [Act.put, List.setIfInBounds_toArray, List.set_cons_succ, List.set_cons_zero]
  · exact ⟨_, _, _, _, _, _, _, _, rfl, (Below.refl B _).drew, (fun h => absurd h (by rw [getD_replicate_false]; decide)), (fun h => absurd h (by rw [getD_replicate_false]; decide)), (fun h => absurd h (by rw [getD_replicate_false]; decide)), (fun h => absurd h (by rw [getD_replicate_false]; decide)), (fun h => absurd h (by rw [getD_replicate_false]; decide)), (fun h => absurd h (by rw [getD_replicate_false]; decide)), (fun h => absurd h (by rw [getD_replicate_false]; decide)), (fun h => absurd h (by rw [getD_replicate_false]; decide))⟩
  · intro listed a w i o hls hJ hin ho hi hall hcl
    obtain ⟨s34, s35, s36, s37, s38, s39, s40, s41, rfl, hbW, c0, c1, c2, c3, c4, c5, c6, c7⟩ := hJ
    rcases (by omega : i = 0 ∨ i = 1 ∨ i = 2 ∨ i = 3 ∨ i = 4 ∨ i = 5 ∨ i = 6 ∨ i = 7) with rfl | rfl | rfl | rfl | rfl | rfl | rfl | rfl
    · obtain rfl := Option.some.inj ho
      have hsz : 0 < listed.size := by rw [hls]; decide
      have hbw := hbW
      refine inv_val (w' := w) (.int .i64 (q : Int)) rfl rfl rfl ?_
      exact ⟨(.int .i64 (q : Int)), s35, s36, s37, s38, s39, s40, s41, rfl, hbw, (fun _ => rfl), (fun h h2 => c1 (bit_ne h (by decide)) (bit_ne h2 (by decide))), (fun h => c2 (bit_ne h (by decide))), (fun h => c3 (bit_ne h (by decide))), (fun h => c4 (bit_ne h (by decide))), (fun h => c5 (bit_ne h (by decide))), (fun h h2 => c6 (bit_ne h (by decide)) (bit_ne h2 (by decide))), (fun h => c7 (bit_ne h (by decide)))⟩
    · obtain rfl := Option.some.inj ho
      have hsz : 1 < listed.size := by rw [hls]; decide
      have hdep0 : listed.getD 0 false = true := hall ⟨0, .data⟩ (by simp) (by rfl)
      obtain rfl := c0 hdep0
      refine inv_call 48 #[.slice none 0 0, .int .i64 (q : Int)] _ rfl rfl (by kernel_rfl) (h4 w) ?_
      rintro e w' ⟨sp, cap, rfl, ow, hb⟩
      have hbw : Below B w2 w' := hbW.trans (hb.mono (hsB hbW))
      refine ⟨_, rfl, ?_⟩
      exact ⟨(.int .i64 (q : Int)), (.slice sp 4 cap), s36, s37, s38, s39, s40, s41, rfl, hbw, (fun h => c0 (bit_ne h (by decide))), (fun _ _ => ⟨sp, cap, rfl, ow.mono (hsB hbW)⟩), (fun h => c2 (bit_ne h (by decide))), (fun h => c3 (bit_ne h (by decide))), (fun h => c4 (bit_ne h (by decide))), (fun h => c5 (bit_ne h (by decide))), (fun h h2 => (c6 (bit_ne h (by decide)) (bit_ne h2 (by decide))).below hb), (fun h => (c7 (bit_ne h (by decide))).below hb)⟩
    · obtain rfl := Option.some.inj ho
      have hsz : 2 < listed.size := by rw [hls]; decide
      have hbw := hbW
      refine inv_val (w' := w) (.agg (v8 nm)) rfl rfl (exec_load_row 22 (.tmp 5) rfl w0.heap.size rfl 22 _ _ (z0.below hbW (by omega)) Tryd.underlying22 rfl (name_info hn)) ?_
      exact ⟨s34, s35, (.agg (v8 nm)), s37, s38, s39, s40, s41, rfl, hbw, (fun h => c0 (bit_ne h (by decide))), (fun h h2 => c1 (bit_ne h (by decide)) (bit_ne h2 (by decide))), (fun _ => rfl), (fun h => c3 (bit_ne h (by decide))), (fun h => c4 (bit_ne h (by decide))), (fun h => c5 (bit_ne h (by decide))), (fun h h2 => c6 (bit_ne h (by decide)) (bit_ne h2 (by decide))), (fun h => c7 (bit_ne h (by decide)))⟩
    · obtain rfl := Option.some.inj ho
      have hsz : 3 < listed.size := by rw [hls]; decide
      have hbw := hbW
      refine inv_val (w' := w) (.int .i64 (q : Int)) rfl rfl rfl ?_
      exact ⟨s34, s35, s36, (.int .i64 (q : Int)), s38, s39, s40, s41, rfl, hbw, (fun h => c0 (bit_ne h (by decide))), (fun h h2 => c1 (bit_ne h (by decide)) (bit_ne h2 (by decide))), (fun h => c2 (bit_ne h (by decide))), (fun _ => rfl), (fun h => c4 (bit_ne h (by decide))), (fun h => c5 (bit_ne h (by decide))), (fun h h2 => c6 (bit_ne h (by decide)) (bit_ne h2 (by decide))), (fun h => c7 (bit_ne h (by decide)))⟩
    · obtain rfl := Option.some.inj ho
      have hsz : 4 < listed.size := by rw [hls]; decide
      have hbw := hbW
      refine inv_val (w' := w) (.agg (v8 seed)) rfl rfl (exec_load_row 24 (.tmp 6) rfl (w0.heap.size + 1) rfl 24 _ _ (z1.below hbW (by omega)) Tryd.underlying24 rfl (id_info hs)) ?_
      exact ⟨s34, s35, s36, s37, (.agg (v8 seed)), s39, s40, s41, rfl, hbw, (fun h => c0 (bit_ne h (by decide))), (fun h h2 => c1 (bit_ne h (by decide)) (bit_ne h2 (by decide))), (fun h => c2 (bit_ne h (by decide))), (fun h => c3 (bit_ne h (by decide))), (fun _ => rfl), (fun h => c5 (bit_ne h (by decide))), (fun h h2 => c6 (bit_ne h (by decide)) (bit_ne h2 (by decide))), (fun h => c7 (bit_ne h (by decide)))⟩
    · obtain rfl := Option.some.inj ho
      have hsz : 5 < listed.size := by rw [hls]; decide
      have hbw := hbW
      refine inv_val (w' := w) (.slice mp ml mc) rfl rfl rfl ?_
      exact ⟨s34, s35, s36, s37, s38, (.slice mp ml mc), s40, s41, rfl, hbw, (fun h => c0 (bit_ne h (by decide))), (fun h h2 => c1 (bit_ne h (by decide)) (bit_ne h2 (by decide))), (fun h => c2 (bit_ne h (by decide))), (fun h => c3 (bit_ne h (by decide))), (fun h => c4 (bit_ne h (by decide))), (fun _ => rfl), (fun h h2 => c6 (bit_ne h (by decide)) (bit_ne h2 (by decide))), (fun h => c7 (bit_ne h (by decide)))⟩
    · obtain rfl := Option.some.inj ho
      have hsz : 6 < listed.size := by rw [hls]; decide
      have hdep2 : listed.getD 2 false = true := hall ⟨2, .data⟩ (by simp) (by rfl)
      obtain rfl := c2 hdep2
      have hdep3 : listed.getD 3 false = true := hall ⟨3, .data⟩ (by simp) (by rfl)
      obtain rfl := c3 hdep3
      have hdep4 : listed.getD 4 false = true := hall ⟨4, .data⟩ (by simp) (by rfl)
      obtain rfl := c4 hdep4
      have hdep5 : listed.getD 5 false = true := hall ⟨5, .data⟩ (by simp) (by rfl)
      obtain rfl := c5 hdep5
      refine inv_call 19 #[.agg (v8 nm), .int .i64 (q : Int), .agg (v8 seed), .slice mp ml mc] _ rfl rfl (by kernel_rfl) (hRS w (hmb.below (zb.trans (hbW.mono (by omega))))) ?_
      rintro e w' ⟨sp, cap, rfl, ow, hb⟩
      have hbw : Below B w2 w' := hbW.trans (hb.mono (hsB hbW))
      refine ⟨_, rfl, ?_⟩
      exact ⟨s34, s35, (.agg (v8 nm)), (.int .i64 (q : Int)), (.agg (v8 seed)), (.slice mp ml mc), (.slice sp 4292 cap), s41, rfl, hbw, (fun h => c0 (bit_ne h (by decide))), (fun h h2 => (c1 (bit_ne h (by decide)) (bit_ne h2 (by decide))).below hb), (fun h => c2 (bit_ne h (by decide))), (fun h => c3 (bit_ne h (by decide))), (fun h => c4 (bit_ne h (by decide))), (fun h => c5 (bit_ne h (by decide))), (fun _ _ => ⟨sp, cap, rfl, ow.mono (hsB hbW)⟩), (fun h => (c7 (bit_ne h (by decide))).below hb)⟩
    · obtain rfl := Option.some.inj ho
      have hsz : 7 < listed.size := by rw [hls]; decide
      have hdep1 : listed.getD 1 false = true := hall ⟨1, .data⟩ (by simp) (by rfl)
      obtain ⟨sp1, cap1, rfl, o1⟩ := c1 hdep1 hi
      have hdep6 : listed.getD 6 false = true := hall ⟨6, .data⟩ (by simp) (by rfl)
      obtain ⟨sp6, cap6, rfl, o6⟩ := c6 hdep6 hi
      refine inv_op rfl rfl (wp8g (.tmp 35) (.tmp 40) 28 5 rfl B Tryd.underlying28 info5 _ (n4 (q : Int)) rfl o1 sp6 4292 cap6 SG rfl hSGl (own_nil o6 (by rw [hSGl]; decide)) o6.bytes (by first | omega | (simp; omega) | simp) (hsB hbW) ?_)
      intro sp cap w' ow hb' hgg
      have hg := Grew.of hgg
      have hbw : Below B w2 w' := hbW.trans hb'
      have hown := o1
      rw [hA2] at ow ⊢
      exact ⟨s34, (.slice sp1 4 cap1), s36, s37, s38, s39, (.slice sp6 4292 cap6), (.slice sp 4296 cap), rfl, hbw, (fun h => c0 (bit_ne h (by decide))), (fun _ h2 => absurd (bit_on hsz) (by rw [h2]; decide)), (fun h => c2 (bit_ne h (by decide))), (fun h => c3 (bit_ne h (by decide))), (fun h => c4 (bit_ne h (by decide))), (fun h => c5 (bit_ne h (by decide))), (fun _ h2 => absurd (bit_on hsz) (by rw [h2]; decide)), (fun _ => ⟨sp, cap, rfl, ow⟩)⟩
  · intro listed a w hall hJ
    obtain ⟨s34, s35, s36, s37, s38, s39, s40, s41, rfl, hbW, c0, c1, c2, c3, c4, c5, c6, c7⟩ := hJ
    obtain rfl := c0 (hall 0 (by omega))
    obtain rfl := c2 (hall 2 (by omega))
    obtain rfl := c3 (hall 3 (by omega))
    obtain rfl := c4 (hall 4 (by omega))
    obtain rfl := c5 (hall 5 (by omega))
    obtain ⟨sp7, cap7, rfl, o7⟩ := c7 (hall 7 (by omega))
    simp only [List.drop_succ_cons, List.drop_zero]
    have hB8 : B ≤ w.heap.size := hsB hbW
    have hB2 : w0.heap.size ≤ B := by omega
    have zT' := zT.below hbW (by omega)
    have zb' := zb.trans (hbW.mono (by omega))
    have hgB : gT < B := by omega
    clear hall c0 c1 c2 c3 c4 c5 c6 c7 z0 z1 h4 hRS zT zb hsB hbW hB listed
    generalize w = w5 at *
    go_upto_region 8 with (go_at_call 48; (with_reducible refine Calls.mono (h4b w5 sp7 cap7 o7 hB8) ?_); rintro e w6 ⟨sp9, cap9, rfl, o9, hb9, hs9⟩)
    have zT6 := zT'.below hb9 hgB
    have zb6 := zb'.trans (hb9.mono hB2)
    have hB9 : B ≤ w6.heap.size := by omega
    clear o7 hB8 zT' zb' h4b hb9 hs9
    go_wp2
    simp only [hpw]
    clear hpw
    go_loopw [13, 14] (fun s r wq => ∃ (k m cq : Nat) (sq : Option Addr), s = .slice sq m cq ∧ r = .int .i64 (P k : Int) ∧ k ≤ h ∧ Own8 wq B 5 (.slice sq m cq) (X ++ catN F k) ∧ Row wq gT 24 (v8 A) ∧ Below w0.heap.size w0 wq ∧ B ≤ wq.heap.size) (fun _ r _ => (intOf r).toNat)
    case atStart => exact ⟨0, _, _, _, rfl, by rw [show P 0 = n + q from f2, Int.natCast_add], by omega, by rw [catN, List.append_nil]; exact o9, zT6, zb6, hB9⟩
    case round =>
      obtain ⟨k, m, cq, sq, rfl, rfl, hk, ho, zTw, zbw, hBw⟩ := hrel
      clear o9 zT6 zb6 hB9
      by_cases hlt : k < h
      · obtain ⟨g1, g2⟩ := f1 k hlt
        have g3 := f3 k
        have g5 := f5 k
        have hxl := xor_lt (P k) n g1 g2
        have hxo := xor_one (P k) (by omega)
        have hcx := hcut _ hxl.1 hxl.2
        rw [← g5] at hcx
        have hcat : catN F (k + 1) = catN F k ++ F k := rfl
        have hnext : ((P (k + 1) : Nat) : Int) = ((P k / 2 : Nat) : Int) := by rw [g3]
        have hlen : (X ++ catN F k).length ≤ 10000 := by rw [List.length_append, hXl, catN_len f6]; omega
        have hFk := f6 k
        generalize hO : X ++ catN F k = O at *
        have hO2 : O ++ F k = X ++ catN F (k + 1) := by rw [← hO, hcat, List.append_assoc]
        generalize F k = Fk at *
        generalize hr : P k = r at *
        generalize r ^^^ 1 = x at *
        have hby := cutBytes zTw x (by rw [hAl]; omega)
        rw [hcx] at hby
        have q2 : (r : Int) / 2 = ((r / 2 : Nat) : Int) := by omega
        have q1 : (r : Int).tdiv 2 = ((r / 2 : Nat) : Int) := by rw [Int.tdiv_eq_ediv_of_nonneg (by omega)]; omega
        have hgt : decide ((r : Int) > 1) = true := by simp; omega
        have hx64 : (x : Int) < 2 * (n : Int) := by omega
        obtain ⟨r2, hr2⟩ : ∃ r2, r / 2 = r2 := ⟨_, rfl⟩
        have hrr : r2 < r := by omega
        rw [hr2] at q1 q2 hnext
        clear hcx hcat hr2 g3 g5 hr hO hxl hcut f1 f2 f3 f4 f5 f6
        have hol : O.length + 32 ≤ 70368744177664 := by omega
        go_wp2_with (at_builtin; (refine append8g (.tmp 54) (.tmp 59) 28 5 (by rfl) (by rfl) B Tryd.underlying28 info5 (.slice sq m cq) O (by rfl) ?ho (some ⟨gT, x * 32, none⟩) 32 32 Fk (by rfl) hFk ?hnil ?hby ?hlen ?hB ?_; (case ho => exact ho); (case hnil => exact (fun h => by cases h)); (case hby => exact hby); (case hlen => exact hol); (case hB => exact hBw); intro sp5 cap5 w7 o7 b7 _g7; rw [hO2] at o7 ⊢; generalize (X ++ catN F (k + 1)).length = m5 at o7 ⊢))
        go_roundw
        case rel => exact ⟨k + 1, m5, cap5, sp5, rfl, by rw [hnext], by omega, o7, zTw.below b7 hgB, zbw.trans (b7.mono hB2), by have := b7.size; omega⟩
        case measure => simp [intOf]; omega
      · obtain rfl : k = h := by omega
        have hgt : decide ((P k : Int) > 1) = false := by rw [f4]; decide
        have hm : m = 4300 + 32 * k := by have := ho.len8; rw [List.length_append, hXl, catN_len f6] at this; omega
        subst hm
        generalize P k = r at *
        go_wp2
        go_ret2
        exact ⟨_, _, rfl, ho.mono hB2, zbw⟩
end Go.Proofs.YtoebnkepeledmaaDoor
