/- The reference's signature. No old memory turns. -/
import Derived.Test.YtoebnkepeledmaaDoorGi
namespace Go.Proofs.YtoebnkepeledmaaDoor
open Go Go.RowKit

set_option maxRecDepth 20000 in
set_option maxHeartbeats 800000 in
theorem rSign_any (S : List Int → List Int) (hS : Hash S) (nm seed msg : List Int) (q : Int) (mp : Option Addr) (ml mc : Nat) (w0 : World) (hn : nm.length = 16) (hs : seed.length = 32) (hml : msg.length = ml) (hmn : mp = none → mc = 0 ∧ ml = 0) (hmm : ml ≤ 1000000) (hmb : Bytes w0 mp msg) :
    Calls Tryd.prog 19 #[.agg (v8 nm), .int .i64 q, .agg (v8 seed), .slice mp ml mc] w0 fun e w' => ∃ sp cap, e = .returned (.slice sp 4292 cap) ∧ Own8 w' w0.heap.size 5 (.slice sp 4292 cap) (sigL S (nm ++ n4 q) seed msg) ∧ Below w0.heap.size w0 w' := by
  have hH : (nm ++ n4 q).length = 20 := by rw [List.length_append, hn, n4_len]
  have hX22 : (nm ++ n4 q ++ n2 65533).length = 22 := by rw [List.length_append, hH]; rfl
  have hX23 : (nm ++ n4 q ++ n2 65533 ++ [255]).length = 23 := by rw [List.length_append, hX22]; rfl
  have hX55 : (nm ++ n4 q ++ n2 65533 ++ [255] ++ seed).length = 55 := by rw [List.length_append, hX23, hs]
  have hsalt : saltL S (nm ++ n4 q) seed = S (nm ++ n4 q ++ n2 65533 ++ [255] ++ seed) := rfl
  have hSAl : (saltL S (nm ++ n4 q) seed).length = 32 := hS.len _
  have hrs : ∀ sp cap w', (sp = none → cap = 0 ∧ 55 = 0) → Bytes w' sp (nm ++ n4 q ++ n2 65533 ++ [255] ++ seed) → Calls Tryd.prog 36 #[.slice sp 55 cap] w' fun e w'' => e = .returned (.agg (v8 (saltL S (nm ++ n4 q) seed))) ∧ Below w'.heap.size w' w'' := fun sp cap w' h1 h2 => by
    rw [hsalt]; exact hS.rsum _ sp 55 cap w' hX55 (by omega) h1 h2
  clear hsalt
  have hsg : sigL S (nm ++ n4 q) seed msg = n4 2 ++ saltL S (nm ++ n4 q) seed ++ catN (zL S (nm ++ n4 q) seed (textL S (nm ++ n4 q) (saltL S (nm ++ n4 q) seed) msg)) 133 := rfl
  have hdg : ∀ (cp : Option Addr) wx, (cp = none → 32 = 0 ∧ 32 = 0) → Bytes wx cp (saltL S (nm ++ n4 q) seed) → Bytes wx mp msg → Calls Tryd.prog 42 #[.agg (v8 nm), .int .i64 q, .slice cp 32 32, .slice mp ml mc] wx fun e w' => e = .returned (.agg (v64 (digsL (textL S (nm ++ n4 q) (saltL S (nm ++ n4 q) seed) msg)))) ∧ Below wx.heap.size wx w' := fun cp wx h1 h2 h3 =>
    rdigits_any S hS nm (saltL S (nm ++ n4 q) seed) msg q cp mp 32 32 ml mc wx hn hSAl h1 h2 (by omega) hml hmn h3 hmm
  have hQl : (textL S (nm ++ n4 q) (saltL S (nm ++ n4 q) seed) msg).length = 32 := hS.len _
  generalize saltL S (nm ++ n4 q) seed = SA at *
  generalize textL S (nm ++ n4 q) SA msg = Q at *
  have hx : ∀ (k : Nat) wx, Calls Tryd.prog 35 #[.agg (v8 nm), .int .i64 q, .int .i64 (k : Int), .agg (v8 seed)] wx fun e w' => e = .returned (.agg (v8 (xL S (nm ++ n4 q) seed k))) ∧ Below wx.heap.size wx w' := fun k wx =>
    rsecret_any S hS nm seed q k wx hn hs
  have hz : ∀ (k : Nat) wx, Calls Tryd.prog 34 #[.agg (v8 nm), .int .i64 q, .int .i64 (k : Int), .int .i64 0, .int .i64 (digN (fullL Q) k), .agg (v8 (xL S (nm ++ n4 q) seed k))] wx fun e w' => e = .returned (.agg (v8 (zL S (nm ++ n4 q) seed Q k))) ∧ Below wx.heap.size wx w' := fun k wx => by
    have hd := digN_nat (fullL Q) k
    have := rwalk_any S hS nm (xL S (nm ++ n4 q) seed k) q k 0 (digN (fullL Q) k).toNat wx hn (hS.len _) (by omega)
    rw [hd.1] at this
    exact this
  have hzl : ∀ i, (zL S (nm ++ n4 q) seed Q i).length = 32 := zL_len (fun l => hS.len l) (nm ++ n4 q) seed Q
  have hDl := digsL_len Q
  have hDat : ∀ k, k < 133 → gi (digsL Q) k = digN (fullL Q) k := digsL_at Q
  have hcl' : Hid (∀ k, (catN (zL S (nm ++ n4 q) seed Q) k).length = 32 * k) := catN_len hzl
  have hC0 : catN (zL S (nm ++ n4 q) seed Q) 0 = [] := rfl
  have hCs' : Hid (∀ k, catN (zL S (nm ++ n4 q) seed Q) (k + 1) = catN (zL S (nm ++ n4 q) seed Q) k ++ zL S (nm ++ n4 q) seed Q k) := fun _ => rfl
  generalize catN (zL S (nm ++ n4 q) seed Q) = C at *
  generalize zL S (nm ++ n4 q) seed Q = Y at *
  generalize xL S (nm ++ n4 q) seed = X at *
  generalize digsL Q = DG at *
  generalize digN (fullL Q) = D at *
  have hsg' : Hid (sigL S (nm ++ n4 q) seed msg = n4 2 ++ SA ++ C 133) := hsg
  clear hsg
  generalize sigL S (nm ++ n4 q) seed msg = SG at *
  have hX0 : (n4 2 ++ SA).length = 36 := by rw [List.length_append, hSAl]; rfl
  have z32 := zv32
  go_enter Tryd.func19, Tryd.ntmps19
  go_upto_region 1 with fail
  have r0 : Row (World.alloc (World.alloc w0 (.cells (v8 nm) 22)) (.cells (v8 seed) 24)) w0.heap.size 22 (v8 nm) := (Row.new _ _ _).alloc _
  have r1 : Row (World.alloc (World.alloc w0 (.cells (v8 nm) 22)) (.cells (v8 seed) 24)) (w0.heap.size + 1) 24 (v8 seed) := Row.newAt _ _ _ _ (by simp)
  have b1 : Below w0.heap.size w0 (World.alloc (World.alloc w0 (.cells (v8 nm) 22)) (.cells (v8 seed) 24)) := ((Below.refl _ _).alloc (Nat.le_refl _) _).alloc (by simp) _
  change Code.wp _ _ _ _ ((World.alloc (World.alloc w0 (.cells (v8 nm) 22)) (.cells (v8 seed) 24)))
  generalize (World.alloc (World.alloc w0 (.cells (v8 nm) 22)) (.cells (v8 seed) 24)) = w1 at r0 r1 b1 ⊢
  have hr1 := r1.lt
  obtain ⟨B, hB⟩ : ∃ B, B = w1.heap.size := ⟨_, rfl⟩
  have hsB : ∀ {w : World}, Below B w1 w → B ≤ w.heap.size := fun h => by have := h.size; omega
  refine region_invFA  (by kernel_rfl) (by kernel_rfl) (fun a0 listed a w => ∃ s9 s14 s15 s16 s17 s18 s19 s20 s21 s22, a = (Act.put (Act.put (Act.put (Act.put (Act.put (Act.put (Act.put (Act.put (Act.put (Act.put a0 (some 9) s9) (some 14) s14) (some 15) s15) (some 16) s16) (some 17) s17) (some 18) s18) (some 19) s19) (some 20) s20) (some 21) s21) (some 22) s22) ∧ Below B w1 w ∧ (listed.getD 0 false = true → s14 = .agg (v8 nm)) ∧ (listed.getD 1 false = true → s15 = .int .i64 q) ∧ (listed.getD 2 false = true → listed.getD 3 false = false → OwnS w B s16 20 (nm ++ n4 q)) ∧ (listed.getD 3 false = true → listed.getD 5 false = false → OwnS w B s17 22 ((nm ++ n4 q) ++ n2 65533)) ∧ (listed.getD 4 false = true → listed.getD 5 false = false → LitS w B s18 1 [255]) ∧ (listed.getD 5 false = true → listed.getD 7 false = false → OwnS w B s19 23 ((nm ++ n4 q) ++ n2 65533 ++ [255])) ∧ (listed.getD 6 false = true → s20 = .slice (some ⟨w0.heap.size + 1, 0, none⟩) 32 32) ∧ (listed.getD 7 false = true → listed.getD 8 false = false → OwnS w B s21 55 ((nm ++ n4 q) ++ n2 65533 ++ [255] ++ seed)) ∧ (listed.getD 8 false = true → s22 = .agg (v8 SA)) ∧ (listed.getD 9 false = true → listed.getD 10 false = false → VarS w B s9 24 (zer 32)) ∧ (listed.getD 10 false = true → VarS w B s9 24 SA) ∧ (listed.getD 4 false = true → listed.getD 5 false = false → listed.getD 2 false = true → listed.getD 3 false = false → s18.ownBlock ≠ s16.ownBlock)) ?_ ?_ ?_
  all_goals simp only [Act.put, List.setIfInBounds_toArray, List.set_cons_succ, List.set_cons_zero]
  · exact ⟨undef, undef, undef, undef, undef, undef, undef, undef, undef, undef, rfl, (Below.refl B _).drew, (fun h => by rw [getD_replicate_false] at h; cases h), (fun h => by rw [getD_replicate_false] at h; cases h), (fun h => by rw [getD_replicate_false] at h; cases h), (fun h => by rw [getD_replicate_false] at h; cases h), (fun h => by rw [getD_replicate_false] at h; cases h), (fun h => by rw [getD_replicate_false] at h; cases h), (fun h => by rw [getD_replicate_false] at h; cases h), (fun h => by rw [getD_replicate_false] at h; cases h), (fun h => by rw [getD_replicate_false] at h; cases h), (fun h => by rw [getD_replicate_false] at h; cases h), (fun h => by rw [getD_replicate_false] at h; cases h), (fun h => by rw [getD_replicate_false] at h; cases h)⟩
  · intro listed a w i o hls hJ hin ho hi hall hcl
    obtain ⟨s9, s14, s15, s16, s17, s18, s19, s20, s21, s22, rfl, hbW, c0, c1, c2, c3, c4, c5, c6, c7, c8, c9, c10, d4_2⟩ := hJ
    replace hin : i < 11 := hin
    rcases (by omega : i = 0 ∨ i = 1 ∨ i = 2 ∨ i = 3 ∨ i = 4 ∨ i = 5 ∨ i = 6 ∨ i = 7 ∨ i = 8 ∨ i = 9 ∨ i = 10) with rfl | rfl | rfl | rfl | rfl | rfl | rfl | rfl | rfl | rfl | rfl
    · obtain rfl := Option.some.inj ho
      have hsz : 0 < listed.size := by rw [hls]; decide
      have hbw := hbW
      refine inv_val (w' := w) (.agg (v8 nm)) rfl rfl (exec_load_row 22 (.tmp 4) rfl w0.heap.size rfl 22 _ _ (r0.below hbW (by omega)) Tryd.underlying22 rfl (name_info hn)) ?_
      exact ⟨s9, (.agg (v8 nm)), s15, s16, s17, s18, s19, s20, s21, s22, rfl, hbw, (fun _ => rfl), (fun h => c1 (bit_ne h (by decide))), (fun h h2 => c2 (bit_ne h (by decide)) (bit_ne h2 (by decide))), (fun h h2 => c3 (bit_ne h (by decide)) (bit_ne h2 (by decide))), (fun h h2 => c4 (bit_ne h (by decide)) (bit_ne h2 (by decide))), (fun h h2 => c5 (bit_ne h (by decide)) (bit_ne h2 (by decide))), (fun h => c6 (bit_ne h (by decide))), (fun h h2 => c7 (bit_ne h (by decide)) (bit_ne h2 (by decide))), (fun h => c8 (bit_ne h (by decide))), (fun h h2 => c9 (bit_ne h (by decide)) (bit_ne h2 (by decide))), (fun h => c10 (bit_ne h (by decide))), (fun h h2 h3 h4 => d4_2 (bit_ne h (by decide)) (bit_ne h2 (by decide)) (bit_ne h3 (by decide)) (bit_ne h4 (by decide)))⟩
    · obtain rfl := Option.some.inj ho
      have hsz : 1 < listed.size := by rw [hls]; decide
      have hbw := hbW
      refine inv_val (w' := w) (.int .i64 q) rfl rfl rfl ?_
      exact ⟨s9, s14, (.int .i64 q), s16, s17, s18, s19, s20, s21, s22, rfl, hbw, (fun h => c0 (bit_ne h (by decide))), (fun _ => rfl), (fun h h2 => c2 (bit_ne h (by decide)) (bit_ne h2 (by decide))), (fun h h2 => c3 (bit_ne h (by decide)) (bit_ne h2 (by decide))), (fun h h2 => c4 (bit_ne h (by decide)) (bit_ne h2 (by decide))), (fun h h2 => c5 (bit_ne h (by decide)) (bit_ne h2 (by decide))), (fun h => c6 (bit_ne h (by decide))), (fun h h2 => c7 (bit_ne h (by decide)) (bit_ne h2 (by decide))), (fun h => c8 (bit_ne h (by decide))), (fun h h2 => c9 (bit_ne h (by decide)) (bit_ne h2 (by decide))), (fun h => c10 (bit_ne h (by decide))), (fun h h2 h3 h4 => d4_2 (bit_ne h (by decide)) (bit_ne h2 (by decide)) (bit_ne h3 (by decide)) (bit_ne h4 (by decide)))⟩
    · obtain rfl := Option.some.inj ho
      have hsz : 2 < listed.size := by rw [hls]; decide
      have hdep0 : listed.getD 0 false = true := hall ⟨0, .data⟩ (by simp) (by rfl)
      obtain rfl := c0 hdep0
      have hdep1 : listed.getD 1 false = true := hall ⟨1, .data⟩ (by simp) (by rfl)
      obtain rfl := c1 hdep1
      refine inv_call 33 #[.agg (v8 nm), .int .i64 q] _ rfl rfl (by kernel_rfl) (rhead_any nm q w hn) ?_
      rintro e w' ⟨sp, cap, rfl, ow, hb⟩
      have hbw : Below B w1 w' := hbW.trans (hb.mono (hsB hbW))
      refine ⟨_, rfl, ?_⟩
      have me_d4_2 := fun (h : LitS w B s18 1 [255]) => h.ne_own ow
      exact ⟨s9, (.agg (v8 nm)), (.int .i64 q), (.slice sp 20 cap), s17, s18, s19, s20, s21, s22, rfl, hbw, (fun h => c0 (bit_ne h (by decide))), (fun h => c1 (bit_ne h (by decide))), (fun _ _ => ⟨sp, cap, rfl, ow.mono (hsB hbW)⟩), (fun h h2 => (c3 (bit_ne h (by decide)) (bit_ne h2 (by decide))).below hb), (fun h h2 => (c4 (bit_ne h (by decide)) (bit_ne h2 (by decide))).below hb), (fun h h2 => (c5 (bit_ne h (by decide)) (bit_ne h2 (by decide))).below hb), (fun h => c6 (bit_ne h (by decide))), (fun h h2 => (c7 (bit_ne h (by decide)) (bit_ne h2 (by decide))).below hb), (fun h => c8 (bit_ne h (by decide))), (fun h h2 => (c9 (bit_ne h (by decide)) (bit_ne h2 (by decide))).below hb), (fun h => (c10 (bit_ne h (by decide))).below hb), (fun h h2 _ _ => me_d4_2 (c4 (bit_ne h (by decide)) (bit_ne h2 (by decide))))⟩
    · obtain rfl := Option.some.inj ho
      have hsz : 3 < listed.size := by rw [hls]; decide
      have hdep2 : listed.getD 2 false = true := hall ⟨2, .data⟩ (by simp) (by rfl)
      obtain ⟨sp2, cap2, rfl, o2⟩ := c2 hdep2 hi
      refine inv_call 41 #[.slice sp2 20 cap2, .int .i64 65533] _ rfl rfl (by kernel_rfl) (rtwo_any (nm ++ n4 q) 65533 _ w B o2 (by omega) (hsB hbW)) ?_
      rintro e w' ⟨sp, cap, rfl, ow, hb', hg, _⟩
      have hbw : Below B w1 w' := hbW.trans hb'
      have hown := o2
      refine ⟨_, rfl, ?_⟩
      exact ⟨s9, s14, s15, (.slice sp2 20 cap2), (.slice sp ((nm ++ n4 q).length + 2) cap), s18, s19, s20, s21, s22, rfl, hbw, (fun h => c0 (bit_ne h (by decide))), (fun h => c1 (bit_ne h (by decide))), (fun _ h2 => absurd (bit_on hsz) (by rw [h2]; decide)), (fun _ _ => ⟨sp, cap, (by rw [hH]), (by rw [hH] at ow; exact ow)⟩), (fun h h2 => (c4 (bit_ne h (by decide)) (bit_ne h2 (by decide))).grew hg (d4_2 (bit_ne h (by decide)) (bit_ne h2 (by decide)) hdep2 hi)), (fun h _ => absurd (hcl 5 _ rfl (bit_ne h (by decide)) ⟨3, .data⟩ (by simp) rfl) (by rw [hi]; decide)), (fun h => c6 (bit_ne h (by decide))), (fun h _ => absurd (hcl 5 _ rfl (hcl 7 _ rfl (bit_ne h (by decide)) ⟨5, .data⟩ (by simp) rfl) ⟨3, .data⟩ (by simp) rfl) (by rw [hi]; decide)), (fun h => c8 (bit_ne h (by decide))), (fun h h2 => (c9 (bit_ne h (by decide)) (bit_ne h2 (by decide))).grew hg hown (by decide)), (fun h => (c10 (bit_ne h (by decide))).grew hg hown (by decide)), (fun _ _ _ h4 => absurd (bit_on hsz) (by rw [h4]; decide))⟩
    · obtain rfl := Option.some.inj ho
      have hsz : 4 < listed.size := by rw [hls]; decide
      have hbw : Below B w1 (w.alloc (.cells (v8 [255]) 5)) := hbW.alloc (hsB hbW) _
      refine inv_val (.slice (some ⟨w.heap.size, 0, none⟩) 1 1) (w' := w.alloc (.cells (v8 [255]) 5)) rfl rfl (by kernel_rfl) ?_
      exact ⟨s9, s14, s15, s16, s17, (.slice (some ⟨w.heap.size, 0, none⟩) 1 1), s19, s20, s21, s22, rfl, hbw, (fun h => c0 (bit_ne h (by decide))), (fun h => c1 (bit_ne h (by decide))), (fun h h2 => (c2 (bit_ne h (by decide)) (bit_ne h2 (by decide))).alloc _), (fun h h2 => (c3 (bit_ne h (by decide)) (bit_ne h2 (by decide))).alloc _), (fun _ _ => LitS.new w B (hsB hbW) 1 [255] rfl), (fun h h2 => (c5 (bit_ne h (by decide)) (bit_ne h2 (by decide))).alloc _), (fun h => c6 (bit_ne h (by decide))), (fun h h2 => (c7 (bit_ne h (by decide)) (bit_ne h2 (by decide))).alloc _), (fun h => c8 (bit_ne h (by decide))), (fun h h2 => (c9 (bit_ne h (by decide)) (bit_ne h2 (by decide))).alloc _), (fun h => (c10 (bit_ne h (by decide))).alloc _), (fun _ _ h3 h4 => litNew (c2 (bit_ne h3 (by decide)) (bit_ne h4 (by decide))))⟩
    · obtain rfl := Option.some.inj ho
      have hsz : 5 < listed.size := by rw [hls]; decide
      have hdep3 : listed.getD 3 false = true := hall ⟨3, .data⟩ (by simp) (by rfl)
      obtain ⟨sp3, cap3, rfl, o3⟩ := c3 hdep3 hi
      have hdep4 : listed.getD 4 false = true := hall ⟨4, .data⟩ (by simp) (by rfl)
      obtain ⟨b4, rfl, r4, hb4⟩ := c4 hdep4 hi
      refine inv_op rfl rfl (wp8g (.tmp 17) (.tmp 18) 28 5 rfl B Tryd.underlying28 info5 _ ((nm ++ n4 q) ++ n2 65533) rfl o3 (some ⟨b4, 0, none⟩) 1 1 [255] rfl rfl (fun h => by cases h) r4.bytes (by first | omega | simp | (simp; omega)) (hsB hbW) ?_)
      intro sp cap w' ow hb' hgg
      have hg := Grew.of hgg
      have hbw : Below B w1 w' := hbW.trans hb'
      have hown := o3
      rw [hX23] at ow ⊢
      exact ⟨s9, s14, s15, s16, (.slice sp3 22 cap3), (.slice (some ⟨b4, 0, none⟩) 1 1), (.slice sp 23 cap), s20, s21, s22, rfl, hbw, (fun h => c0 (bit_ne h (by decide))), (fun h => c1 (bit_ne h (by decide))), (fun _ h2 => absurd hdep3 (by rw [bit_ne h2 (by decide)]; decide)), (fun _ h2 => absurd (bit_on hsz) (by rw [h2]; decide)), (fun _ h2 => absurd (bit_on hsz) (by rw [h2]; decide)), (fun _ _ => ⟨sp, cap, rfl, ow⟩), (fun h => c6 (bit_ne h (by decide))), (fun h _ => absurd (hcl 7 _ rfl (bit_ne h (by decide)) ⟨5, .data⟩ (by simp) rfl) (by rw [hi]; decide)), (fun h => c8 (bit_ne h (by decide))), (fun h h2 => (c9 (bit_ne h (by decide)) (bit_ne h2 (by decide))).grew hg hown (by decide)), (fun h => (c10 (bit_ne h (by decide))).grew hg hown (by decide)), (fun _ h2 _ _ => absurd (bit_on hsz) (by rw [h2]; decide))⟩
    · obtain rfl := Option.some.inj ho
      have hsz : 6 < listed.size := by rw [hls]; decide
      have hbw := hbW
      refine inv_val (w' := w) (.slice (some ⟨w0.heap.size + 1, 0, none⟩) 32 32) rfl rfl (by kernel_rfl) ?_
      exact ⟨s9, s14, s15, s16, s17, s18, s19, (.slice (some ⟨w0.heap.size + 1, 0, none⟩) 32 32), s21, s22, rfl, hbw, (fun h => c0 (bit_ne h (by decide))), (fun h => c1 (bit_ne h (by decide))), (fun h h2 => c2 (bit_ne h (by decide)) (bit_ne h2 (by decide))), (fun h h2 => c3 (bit_ne h (by decide)) (bit_ne h2 (by decide))), (fun h h2 => c4 (bit_ne h (by decide)) (bit_ne h2 (by decide))), (fun h h2 => c5 (bit_ne h (by decide)) (bit_ne h2 (by decide))), (fun _ => rfl), (fun h h2 => c7 (bit_ne h (by decide)) (bit_ne h2 (by decide))), (fun h => c8 (bit_ne h (by decide))), (fun h h2 => c9 (bit_ne h (by decide)) (bit_ne h2 (by decide))), (fun h => c10 (bit_ne h (by decide))), (fun h h2 h3 h4 => d4_2 (bit_ne h (by decide)) (bit_ne h2 (by decide)) (bit_ne h3 (by decide)) (bit_ne h4 (by decide)))⟩
    · obtain rfl := Option.some.inj ho
      have hsz : 7 < listed.size := by rw [hls]; decide
      have hdep5 : listed.getD 5 false = true := hall ⟨5, .data⟩ (by simp) (by rfl)
      obtain ⟨sp5, cap5, rfl, o5⟩ := c5 hdep5 hi
      have hdep6 : listed.getD 6 false = true := hall ⟨6, .data⟩ (by simp) (by rfl)
      obtain rfl := c6 hdep6
      refine inv_op rfl rfl (wp8g (.tmp 19) (.tmp 20) 28 5 rfl B Tryd.underlying28 info5 _ ((nm ++ n4 q) ++ n2 65533 ++ [255]) rfl o5 (some ⟨w0.heap.size + 1, 0, none⟩) 32 32 seed rfl hs (fun h => by cases h) ((r1.below hbW (by omega)).bytes) (by first | omega | simp | (simp; omega)) (hsB hbW) ?_)
      intro sp cap w' ow hb' hgg
      have hg := Grew.of hgg
      have hbw : Below B w1 w' := hbW.trans hb'
      have hown := o5
      rw [hX55] at ow ⊢
      exact ⟨s9, s14, s15, s16, s17, s18, (.slice sp5 23 cap5), (.slice (some ⟨w0.heap.size + 1, 0, none⟩) 32 32), (.slice sp 55 cap), s22, rfl, hbw, (fun h => c0 (bit_ne h (by decide))), (fun h => c1 (bit_ne h (by decide))), (fun _ h2 => absurd (hcl 5 _ rfl hdep5 ⟨3, .data⟩ (by simp) rfl) (by rw [bit_ne h2 (by decide)]; decide)), (fun _ h2 => absurd hdep5 (by rw [bit_ne h2 (by decide)]; decide)), (fun _ h2 => absurd hdep5 (by rw [bit_ne h2 (by decide)]; decide)), (fun _ h2 => absurd (bit_on hsz) (by rw [h2]; decide)), (fun h => c6 (bit_ne h (by decide))), (fun _ _ => ⟨sp, cap, rfl, ow⟩), (fun h => c8 (bit_ne h (by decide))), (fun h h2 => (c9 (bit_ne h (by decide)) (bit_ne h2 (by decide))).grew hg hown (by decide)), (fun h => (c10 (bit_ne h (by decide))).grew hg hown (by decide)), (fun h h2 h3 h4 => d4_2 (bit_ne h (by decide)) (bit_ne h2 (by decide)) (bit_ne h3 (by decide)) (bit_ne h4 (by decide)))⟩
    · obtain rfl := Option.some.inj ho
      have hsz : 8 < listed.size := by rw [hls]; decide
      have hdep7 : listed.getD 7 false = true := hall ⟨7, .data⟩ (by simp) (by rfl)
      obtain ⟨sp7, cap7, rfl, o7⟩ := c7 hdep7 hi
      refine inv_call 36 #[.slice sp7 55 cap7] _ rfl rfl (by kernel_rfl) (hrs sp7 cap7 w (own_nil o7 (by rw [hX55]; omega)) o7.bytes) ?_
      rintro e w' ⟨rfl, hb⟩
      have hbw : Below B w1 w' := hbW.trans (hb.mono (hsB hbW))
      refine ⟨_, rfl, ?_⟩
      exact ⟨s9, s14, s15, s16, s17, s18, s19, s20, (.slice sp7 55 cap7), (.agg (v8 SA)), rfl, hbw, (fun h => c0 (bit_ne h (by decide))), (fun h => c1 (bit_ne h (by decide))), (fun h h2 => (c2 (bit_ne h (by decide)) (bit_ne h2 (by decide))).below hb), (fun h h2 => (c3 (bit_ne h (by decide)) (bit_ne h2 (by decide))).below hb), (fun h h2 => (c4 (bit_ne h (by decide)) (bit_ne h2 (by decide))).below hb), (fun h h2 => (c5 (bit_ne h (by decide)) (bit_ne h2 (by decide))).below hb), (fun h => c6 (bit_ne h (by decide))), (fun _ h2 => absurd (bit_on hsz) (by rw [h2]; decide)), (fun _ => rfl), (fun h h2 => (c9 (bit_ne h (by decide)) (bit_ne h2 (by decide))).below hb), (fun h => (c10 (bit_ne h (by decide))).below hb), (fun h h2 h3 h4 => d4_2 (bit_ne h (by decide)) (bit_ne h2 (by decide)) (bit_ne h3 (by decide)) (bit_ne h4 (by decide)))⟩
    · obtain rfl := Option.some.inj ho
      have hsz : 9 < listed.size := by rw [hls]; decide
      have hbw : Below B w1 (w.alloc (.cells (v8 (zer 32)) 24)) := hbW.alloc (hsB hbW) _
      refine inv_val (.pointer (some ⟨w.heap.size, 0, none⟩)) (w' := w.alloc (.cells (v8 (zer 32)) 24)) rfl rfl (by kernel_rfl) ?_
      exact ⟨(.pointer (some ⟨w.heap.size, 0, none⟩)), s14, s15, s16, s17, s18, s19, s20, s21, s22, rfl, hbw, (fun h => c0 (bit_ne h (by decide))), (fun h => c1 (bit_ne h (by decide))), (fun h h2 => (c2 (bit_ne h (by decide)) (bit_ne h2 (by decide))).alloc _), (fun h h2 => (c3 (bit_ne h (by decide)) (bit_ne h2 (by decide))).alloc _), (fun h h2 => (c4 (bit_ne h (by decide)) (bit_ne h2 (by decide))).alloc _), (fun h h2 => (c5 (bit_ne h (by decide)) (bit_ne h2 (by decide))).alloc _), (fun h => c6 (bit_ne h (by decide))), (fun h h2 => (c7 (bit_ne h (by decide)) (bit_ne h2 (by decide))).alloc _), (fun h => c8 (bit_ne h (by decide))), (fun _ _ => VarS.new w B (hsB hbW) _ _), (fun h => absurd (hcl 10 _ rfl (bit_ne h (by decide)) ⟨9, .data⟩ (by simp) rfl) (by rw [hi]; decide)), (fun h h2 h3 h4 => d4_2 (bit_ne h (by decide)) (bit_ne h2 (by decide)) (bit_ne h3 (by decide)) (bit_ne h4 (by decide)))⟩
    · obtain rfl := Option.some.inj ho
      have hsz : 10 < listed.size := by rw [hls]; decide
      have hdep9 : listed.getD 9 false = true := hall ⟨9, .data⟩ (by simp) (by rfl)
      have hdep8 : listed.getD 8 false = true := hall ⟨8, .data⟩ (by simp) (by rfl)
      obtain rfl := c8 hdep8
      obtain ⟨bV, rfl, rV, hbV⟩ := c9 hdep9 hi
      refine inv_store 24 (.tmp 9) (.tmp 22) rfl rfl rfl rfl bV SA rfl rfl 24 (zer 32) rV (id_info hSAl) (by rw [hSAl, zer_len]) ?_
      have hbw : Below B w1 (w.setRow bV (v8 SA)) := below_setRow hbW hbV _
      exact ⟨(.pointer (some ⟨bV, 0, none⟩)), s14, s15, s16, s17, s18, s19, s20, s21, (.agg (v8 SA)), rfl, hbw, (fun h => c0 (bit_ne h (by decide))), (fun h => c1 (bit_ne h (by decide))), (fun h h2 => (c2 (bit_ne h (by decide)) (bit_ne h2 (by decide))).setVar rV (by decide)), (fun h h2 => (c3 (bit_ne h (by decide)) (bit_ne h2 (by decide))).setVar rV (by decide)), (fun h h2 => (c4 (bit_ne h (by decide)) (bit_ne h2 (by decide))).setVar rV (by decide)), (fun h h2 => (c5 (bit_ne h (by decide)) (bit_ne h2 (by decide))).setVar rV (by decide)), (fun h => c6 (bit_ne h (by decide))), (fun h h2 => (c7 (bit_ne h (by decide)) (bit_ne h2 (by decide))).setVar rV (by decide)), (fun h => c8 (bit_ne h (by decide))), (fun _ h2 => absurd (bit_on hsz) (by rw [h2]; decide)), (fun _ => ⟨bV, rfl, rV.setRow _, hbV⟩), (fun h h2 h3 h4 => d4_2 (bit_ne h (by decide)) (bit_ne h2 (by decide)) (bit_ne h3 (by decide)) (bit_ne h4 (by decide)))⟩
  · intro listed a w hall hJ
    obtain ⟨s9, s14, s15, s16, s17, s18, s19, s20, s21, s22, rfl, hbW, c0, c1, c2, c3, c4, c5, c6, c7, c8, c9, c10, d4_2⟩ := hJ
    obtain rfl := c0 (hall 0 (by decide))
    obtain rfl := c1 (hall 1 (by decide))
    obtain rfl := c6 (hall 6 (by decide))
    obtain rfl := c8 (hall 8 (by decide))
    obtain ⟨b10, rfl, r10, hb10⟩ := c10 (hall 10 (by decide))
    have p0 := r0.below hbW (by omega)
    have p1 := r1.below hbW (by omega)
    have p2 := r10
    have pb := b1.trans (hbW.mono (by omega))
    have hb9' : w0.heap.size + 1 < b10 := by omega
    clear r0 r1 b1 hbW r10 hb10 c2 c3 c4 c5 c7 c9 d4_2 hall hrs hsB hB hr1 hX22 hX23 hX55
    generalize w = w2 at p0 p1 p2 pb ⊢
    generalize b10 = b9 at *
    have hp2 := p2.lt
    go_upto_region 2 with fail
    refine region_alloc 5 69 (v64 (zer 133)) 10 (by kernel_rfl) (by kernel_rfl) (by rfl) (by kernel_rfl) ?hal ?hh
    case hal =>
      intro a w o ho
      cases ho
      kernel_rfl
    case hh =>
      apply Exists.intro
      refine ⟨fun ι _ W hb hc => ?_, fun gA w3 hgA hbel3 hrow => ?_⟩
      · have t0 : ∀ i, Row (W i) w0.heap.size 22 (v8 nm) := fun i => p0.below (hb i) p0.lt
        have t2 : ∀ i, Row (W i) b9 24 (v8 SA) := fun i => p2.below (hb i) p2.lt
        have tm : ∀ i, Bytes (W i) mp msg := fun i => hmb.below (pb.trans ((hb i).mono pb.size))
        simp only [List.take_succ_cons, List.take_zero]
        refine q_load_row 22 (.tmp 4) (by rfl) (by rfl) (w0.heap.size) (by rfl) 22 _ _ t0 Tryd.underlying22 rfl (name_info hn) ?_
        simp only [Act.put, List.setIfInBounds_toArray, List.set_cons_succ, List.set_cons_zero]
        go_big_quiet_step (fail)
        go_big_quiet_step (fail)
        go_big_quiet_step (fail)
        go_big_quiet_step ((go_at_call 42; exact (hdg (some ⟨b9, 0, none⟩) _ (fun h => by cases h) (t2 _).bytes (tm _)).mono (fun e w' ⟨he, hw⟩ => ⟨he, hc _ _ hw⟩)))
        exact wpQuiet_nil rfl
      · simp only [List.drop_succ_cons, List.drop_zero, Act.put, List.setIfInBounds_toArray, List.set_cons_succ, List.set_cons_zero]
        have hi69 : (Tryd.prog.info? 69).map (·.size) = some (v64 DG).size := by rw [v64_size, hDl]; kernel_rfl
        refine store_row0 69 (.tmp 10) (.tmp 27) (by rfl) (by rfl) (by rfl) gA (v64 DG) (by rfl) (by rfl) 69 _ hrow hi69 (by rw [v64_size, v64_size, hDl, zer_len]) (v64_one _) ?_
        have hs3 := hbel3.size
        have x0 := (p0.below hbel3 p0.lt).setRowOther (g := gA) (by omega) (v64 DG)
        have x1 := (p1.below hbel3 p1.lt).setRowOther (g := gA) (by omega) (v64 DG)
        have x2 := (p2.below hbel3 p2.lt).setRowOther (g := gA) (by omega) (v64 DG)
        have x3 := hrow.setRow (v64 DG)
        have xb := below_setRow (g := gA) (pb.trans (hbel3.mono pb.size)) (by have := pb.size; omega) (v64 DG)
        have hgA' : b9 < gA := by omega
        generalize w3.setRow gA (v64 DG) = w4 at x0 x1 x2 x3 xb ⊢
        clear p0 p1 p2 pb hbel3 hrow hp2 hs3 hgA hdg
        have hx3 := x3.lt
        obtain ⟨B3, hB3⟩ : ∃ B3, B3 = w4.heap.size := ⟨_, rfl⟩
        have hsB : ∀ {w : World}, Below B3 w4 w → B3 ≤ w.heap.size := fun h => by have := h.size; omega
        have rf : ∀ wx : World, Calls Tryd.prog 43 #[.slice none 0 0, .int .i64 2] wx fun e w' => ∃ sp cap, e = .returned (.slice sp 4 cap) ∧ Own8 w' wx.heap.size 5 (.slice sp 4 cap) (n4 2) ∧ Below wx.heap.size wx w' := fun wx => by
          refine (rfour_any [] 2 (.slice none 0 0) wx wx.heap.size (World.ownsRow_nil _ _ _ _) (by simp) (Nat.le_refl _)).mono ?_
          rintro e w' ⟨sp, cap, rfl, ow, hb, _, _⟩
          exact ⟨sp, cap, rfl, ow, hb⟩
        have hn42 : (n4 2).length = 4 := rfl
        go_upto_region 3 with fail
        obtain ⟨B, hBe⟩ : ∃ B, B = B3 := ⟨_, rfl⟩
        rw [← hBe] at hB3 hsB
        clear hBe
        refine region_invF 3 (by kernel_rfl) (by kernel_rfl) (fun a0 listed a w => ∃ s28 s29 s30, a = (Act.put (Act.put (Act.put a0 (some 28) s28) (some 29) s29) (some 30) s30) ∧ Below B w4 w ∧ (listed.getD 0 false = true → listed.getD 2 false = false → OwnS w B s28 4 (n4 2)) ∧ (listed.getD 1 false = true → s29 = .slice (some ⟨b9, 0, none⟩) 32 32) ∧ (listed.getD 2 false = true → OwnS w B s30 36 (n4 2 ++ SA))) ?_ ?_ ?_
        all_goals simp only [Act.put, List.setIfInBounds_toArray, List.set_cons_succ, List.set_cons_zero]
        · exact ⟨undef, undef, undef, rfl, (Below.refl B _).drew, (fun h => by rw [getD_replicate_false] at h; cases h), (fun h => by rw [getD_replicate_false] at h; cases h), (fun h => by rw [getD_replicate_false] at h; cases h)⟩
        · intro listed a w i o hls hJ hin ho hi hall hcl
          obtain ⟨s28, s29, s30, rfl, hbW, c0, c1, c2⟩ := hJ
          rcases (by omega : i = 0 ∨ i = 1 ∨ i = 2) with rfl | rfl | rfl
          · obtain rfl := Option.some.inj ho
            have hsz : 0 < listed.size := by rw [hls]; decide
            refine inv_call 43 #[.slice none 0 0, .int .i64 2] _ rfl rfl (by kernel_rfl) (rf w) ?_
            rintro e w' ⟨sp, cap, rfl, ow, hb⟩
            have hbw : Below B w4 w' := hbW.trans (hb.mono (hsB hbW))
            refine ⟨_, rfl, ?_⟩
            exact ⟨(.slice sp 4 cap), s29, s30, rfl, hbw, (fun _ _ => ⟨sp, cap, rfl, ow.mono (hsB hbW)⟩), (fun h => c1 (bit_ne h (by decide))), (fun h => (c2 (bit_ne h (by decide))).below hb)⟩
          · obtain rfl := Option.some.inj ho
            have hsz : 1 < listed.size := by rw [hls]; decide
            have hbw := hbW
            refine inv_val (w' := w) (.slice (some ⟨b9, 0, none⟩) 32 32) rfl rfl (by kernel_rfl) ?_
            exact ⟨s28, (.slice (some ⟨b9, 0, none⟩) 32 32), s30, rfl, hbw, (fun h h2 => c0 (bit_ne h (by decide)) (bit_ne h2 (by decide))), (fun _ => rfl), (fun h => c2 (bit_ne h (by decide)))⟩
          · obtain rfl := Option.some.inj ho
            have hsz : 2 < listed.size := by rw [hls]; decide
            have hdep0 : listed.getD 0 false = true := hall ⟨0, .data⟩ (by simp) (by rfl)
            obtain ⟨sp0, cap0, rfl, o0⟩ := c0 hdep0 hi
            have hdep1 : listed.getD 1 false = true := hall ⟨1, .data⟩ (by simp) (by rfl)
            obtain rfl := c1 hdep1
            refine inv_op rfl rfl (wp8g (.tmp 28) (.tmp 29) 28 5 rfl B Tryd.underlying28 info5 _ (n4 2) rfl o0 (some ⟨b9, 0, none⟩) 32 32 SA rfl hSAl (fun h => by cases h) ((x2.below hbW (by omega)).bytes) (by first | omega | simp | (simp; omega)) (hsB hbW) ?_)
            intro sp cap w' ow hb' hgg
            have hg := Grew.of hgg
            have hbw : Below B w4 w' := hbW.trans hb'
            have hown := o0
            rw [hX0] at ow ⊢
            exact ⟨(.slice sp0 4 cap0), (.slice (some ⟨b9, 0, none⟩) 32 32), (.slice sp 36 cap), rfl, hbw, (fun _ h2 => absurd (bit_on hsz) (by rw [h2]; decide)), (fun h => c1 (bit_ne h (by decide))), (fun _ => ⟨sp, cap, rfl, ow⟩)⟩
        · intro listed a w hall hJ
          obtain ⟨s28, s29, s30, rfl, hbW, c0, c1, c2⟩ := hJ
          obtain rfl := c1 (hall 1 (by omega))
          obtain ⟨sp2, cap2, rfl, o2⟩ := c2 (hall 2 (by omega))
          simp only [List.drop_succ_cons, List.drop_zero]
          have q0 := x0.below hbW (by omega)
          have q1 := x1.below hbW (by omega)
          have q3 := x3.below hbW (by omega)
          have qb := xb.trans (hbW.mono (by have := xb.size; omega))
          have hsw := hsB hbW
          clear x0 x1 x2 x3 xb hbW c0 hall hsB rf
          generalize n4 2 ++ SA = X0 at *
          generalize w = w5 at q0 q1 q3 qb o2 hsw ⊢
          go_wp2
          go_loopw [11, 12] (fun bv v wr => ∃ (k : Nat) (spk : Option Addr) (capk : Nat), k ≤ 133 ∧ bv = .slice spk (36 + 32 * k) capk ∧ v = .int .i64 (k : Int) ∧ Own8 wr B 5 (.slice spk (36 + 32 * k) capk) (X0 ++ C k) ∧ Row wr w0.heap.size 22 (v8 nm) ∧ Row wr (w0.heap.size + 1) 24 (v8 seed) ∧ Row wr gA 69 (v64 DG) ∧ Below w0.heap.size w0 wr ∧ B ≤ wr.heap.size) (fun _ v _ => 133 - (intOf v).toNat)
          case atStart => exact ⟨0, sp2, cap2, by omega, rfl, rfl, by simpa [hC0] using o2, q0, q1, q3, qb, hsw⟩
          case round =>
            clear q0 q1 q3 qb o2 hsw
            obtain ⟨k, spk, capk, hk, rfl, rfl, ok, z0, z1, z3, zb, hsz⟩ := hrel
            have hgB : gA < B := by omega
            by_cases hlt : k < 133
            · have hCl := hcl'.out k
              have hYk := hzl k
              have hXk : (X0 ++ C k).length = 36 + 32 * k := by rw [List.length_append, hX0, hCl]
              have hXk1 : (X0 ++ C k ++ Y k).length = 36 + 32 * (k + 1) := by rw [List.length_append, hXk, hYk]; omega
              have hnx : Hid (X0 ++ C k ++ Y k = X0 ++ C (k + 1)) := by show _ = _; rw [hCs'.out k, List.append_assoc]
              have hDk := hDat k hlt
              go_upto_region 7 with fail
              refine region_alloc 12 24 (v8 (zer 32)) 13 (by kernel_rfl) (by kernel_rfl) (by rfl) (by kernel_rfl) ?hal2 ?hh2
              case hal2 =>
                intro a w o ho
                cases ho
                kernel_rfl
              case hh2 =>
                apply Exists.intro
                refine ⟨fun ι _ W hb hc => ?_, fun b w2 hb2 hbel2 hrow => ?_⟩
                · have t0 : ∀ i, Row (W i) w0.heap.size 22 (v8 nm) := fun i => z0.below (hb i) z0.lt
                  have t1 : ∀ i, Row (W i) (w0.heap.size + 1) 24 (v8 seed) := fun i => z1.below (hb i) z1.lt
                  have t3 : ∀ i, (W i).cell? ⟨gA, k, none⟩ = some (.int .i64 (D k)) := fun i => by
                    rw [← hDk]; exact (z3.below (hb i) z3.lt).cell64 (by omega)
                  simp only [List.take_succ_cons, List.take_zero]
                  refine q_load_row 22 (.tmp 4) (by rfl) (by rfl) (w0.heap.size) (by rfl) 22 _ _ t0 Tryd.underlying22 rfl (name_info hn) ?_
                  simp only [Act.put, List.setIfInBounds_toArray, List.set_cons_succ, List.set_cons_zero]
                  go_big_quiet_step (fail)
                  go_big_quiet_step (fail)
                  go_big_quiet_step (fail)
                  go_big_quiet_step (fail)
                  go_big_quiet_step (fail)
                  refine q_load_row 22 (.tmp 4) (by rfl) (by rfl) (w0.heap.size) (by rfl) 22 _ _ t0 Tryd.underlying22 rfl (name_info hn) ?_
                  simp only [Act.put, List.setIfInBounds_toArray, List.set_cons_succ, List.set_cons_zero]
                  go_big_quiet_step (fail)
                  go_big_quiet_step (fail)
                  refine q_load_row 24 (.tmp 6) (by rfl) (by rfl) (w0.heap.size + 1) (by rfl) 24 _ _ t1 Tryd.underlying24 rfl (id_info hs) ?_
                  simp only [Act.put, List.setIfInBounds_toArray, List.set_cons_succ, List.set_cons_zero]
                  go_big_quiet_step ((go_at_call 35; exact (hx k _).mono (fun e w' ⟨he, hw⟩ => ⟨he, hc _ _ hw⟩)))
                  go_big_quiet_step ((go_at_call 34; exact (hz k _).mono (fun e w' ⟨he, hw⟩ => ⟨he, hc _ _ hw⟩)))
                  exact wpQuiet_nil rfl
                · simp only [List.drop_succ_cons, List.drop_zero, Act.put, List.setIfInBounds_toArray, List.set_cons_succ, List.set_cons_zero]
                  refine store_row0 24 (.tmp 13) (.tmp 46) (by rfl) (by rfl) (by rfl) b (v8 (Y k)) (by rfl) (by rfl) 24 _ hrow (id_info hYk) (by rw [v8_size, v8_size, hYk, zer_len]) (v8_one _) ?_
                  have hsw := hbel2.size
                  have y0 := (z0.below hbel2 z0.lt).setRowOther (g := b) (by omega) (v8 (Y k))
                  have y1 := (z1.below hbel2 z1.lt).setRowOther (g := b) (by omega) (v8 (Y k))
                  have y3 := (z3.below hbel2 z3.lt).setRowOther (g := b) (by omega) (v8 (Y k))
                  have y4 := hrow.setRow (v8 (Y k))
                  have y5 := (ok.below hbel2 (Nat.le_refl _)).setRowOther (g := b) (own_lt ok hb2) (v8 (Y k))
                  have yb := below_setRow (g := b) (zb.trans (hbel2.mono zb.size)) (by omega) (v8 (Y k))
                  have hys : B ≤ (w2.setRow b (v8 (Y k))).heap.size := by have := (below_setRow (g := b) (Below.refl b w2) (Nat.le_refl _) (v8 (Y k))).size; omega
                  generalize w2.setRow b (v8 (Y k)) = w3 at y0 y1 y3 y4 y5 yb hys ⊢
                  clear z0 z1 z3 zb hbel2 hrow ok
                  go_wp2_with (at_builtin; (refine append8g (.tmp 47) (.tmp 48) 28 5 (by rfl) (by rfl) B Tryd.underlying28 info5 (.slice spk (36 + 32 * k) capk) (X0 ++ C k) (by rfl) ?ho (some ⟨b, 0, none⟩) 32 32 (Y k) (by rfl) hYk ?hnil ?hby ?hlen ?hB ?_; (case ho => exact y5); (case hnil => exact (fun h => by cases h)); (case hby => exact y4.bytes); (case hlen => first | omega | (simp; omega) | simp); (case hB => first | omega | (simp; omega) | simp); rw [hXk1]; intro sp17 cap17 w17 o17 b17 _g17; have hs17 := b17.size))
                  go_roundw
                  case rel => exact ⟨k + 1, sp17, cap17, by omega, rfl, by go_num, by rw [← hnx.out]; exact o17, y0.below b17 (by omega), y1.below b17 (by omega), y3.below b17 (by omega), yb.trans (b17.mono (by omega)), by omega⟩
                  case measure => simp [intOf]; omega
            · obtain rfl : k = 133 := by omega
              have hso := hsg'.out
              have hfin : Own8 wr w0.heap.size 5 (.slice spk 4292 capk) SG := by rw [hso]; exact ok.mono (by omega)
              clear hso
              go_wp2
              go_ret
              exact ⟨spk, capk, rfl, hfin, zb⟩

end Go.Proofs.YtoebnkepeledmaaDoor
