/- Signatures read back, in the reference of ots. -/
import Derived.Test.YtoebnkepeledmaaDoorGi
import Derived.Test.YtoebnkepeledmaaDoorOtsHx
import Derived.Test.YtoebnkepeledmaaDoorGe
namespace Go.Proofs.YtoebnkepeledmaaDoor

section
open Go Go.RowKit

set_option maxRecDepth 20000 in
set_option maxHeartbeats 800000 in
theorem rSign_any (S : List Int → List Int) (hS : Hash S) (nm seed msg : List Int) (q : Int) (mp : Option Addr) (ml mc : Nat) (w0 : World) (hn : nm.length = 16) (hs : seed.length = 32) (hml : msg.length = ml) (hmn : mp = none → mc = 0 ∧ ml = 0) (hmm : ml ≤ 1000000) (hmb : Bytes w0 mp msg) :
    Calls Tryd.prog 19 #[.agg (v8 nm), .int .i64 q, .agg (v8 seed), .slice mp ml mc] w0 fun e w' => ∃ sp cap, e = .returned (.slice sp 4292 cap) ∧ Own8 w' w0.heap.size 5 (.slice sp 4292 cap) (sigL S (nm ++ n4 q) seed msg) ∧ Below w0.heap.size w0 w' := by
  have hH : (nm ++ n4 q).length = 20 := by rw [List.length_append, hn, n4_len]
  have hX22 : (nm ++ n4 q ++ n2 65533).length = 22 := by rw [List.length_append, hH]; rfl
  have hX23 : (nm ++ n4 q ++ n2 65533 ++ [255]).length = 23 := by rw [List.length_append, hX22]; rfl
  have hX55 : (nm ++ n4 q ++ n2 65533 ++ [255] ++ seed).length = 55 := by rw [List.length_append, hX23, hs]
  have hsalt : saltL S (nm ++ n4 q) seed = S (nm ++ n4 q ++ n2 65533 ++ [255] ++ seed) := rfl
  have hSAl : (saltL S (nm ++ n4 q) seed).length = 32 := hS.len _
  have hrs : ∀ sp cap w', (sp = none → cap = 0 ∧ 55 = 0) → Bytes w' sp (nm ++ n4 q ++ n2 65533 ++ [255] ++ seed) → Calls Tryd.prog 36 #[.slice sp 55 cap] w' fun e w'' => e = .returned (.agg (v8 (saltL S (nm ++ n4 q) seed))) ∧ Below w'.heap.size w' w'' := fun sp cap w' h1 h2 => by
    rw [hsalt]; exact hS.rsum _ sp 55 cap w' hX55 (by omega) h1 h2
  clear hsalt
  have hsg : sigL S (nm ++ n4 q) seed msg = n4 2 ++ saltL S (nm ++ n4 q) seed ++ catN (zL S (nm ++ n4 q) seed (textL S (nm ++ n4 q) (saltL S (nm ++ n4 q) seed) msg)) 133 := rfl
  have hdg : ∀ (cp : Option Addr) wx, (cp = none → 32 = 0 ∧ 32 = 0) → Bytes wx cp (saltL S (nm ++ n4 q) seed) → Bytes wx mp msg → Calls Tryd.prog 42 #[.agg (v8 nm), .int .i64 q, .slice cp 32 32, .slice mp ml mc] wx fun e w' => e = .returned (.agg (v64 (digsL (textL S (nm ++ n4 q) (saltL S (nm ++ n4 q) seed) msg)))) ∧ Below wx.heap.size wx w' := fun cp wx h1 h2 h3 =>
    rdigits_any S hS nm (saltL S (nm ++ n4 q) seed) msg q cp mp 32 32 ml mc wx hn hSAl h1 h2 (by omega) hml hmn h3 hmm
  have hQl : (textL S (nm ++ n4 q) (saltL S (nm ++ n4 q) seed) msg).length = 32 := hS.len _
  generalize saltL S (nm ++ n4 q) seed = SA at *
  generalize textL S (nm ++ n4 q) SA msg = Q at *
  have hx : ∀ (k : Nat) wx, Calls Tryd.prog 35 #[.agg (v8 nm), .int .i64 q, .int .i64 (k : Int), .agg (v8 seed)] wx fun e w' => e = .returned (.agg (v8 (xL S (nm ++ n4 q) seed k))) ∧ Below wx.heap.size wx w' := fun k wx =>
    rsecret_any S hS nm seed q k wx hn hs
  have hz : ∀ (k : Nat) wx, Calls Tryd.prog 34 #[.agg (v8 nm), .int .i64 q, .int .i64 (k : Int), .int .i64 0, .int .i64 (digN (fullL Q) k), .agg (v8 (xL S (nm ++ n4 q) seed k))] wx fun e w' => e = .returned (.agg (v8 (zL S (nm ++ n4 q) seed Q k))) ∧ Below wx.heap.size wx w' := fun k wx => by
    have hd := digN_nat (fullL Q) k
    have := rwalk_any S hS nm (xL S (nm ++ n4 q) seed k) q k 0 (digN (fullL Q) k).toNat wx hn (hS.len _) (by omega)
    rw [hd.1] at this
    exact this
  have hzl : ∀ i, (zL S (nm ++ n4 q) seed Q i).length = 32 := zL_len (fun l => hS.len l) (nm ++ n4 q) seed Q
  have hDl := digsL_len Q
  have hDat : ∀ k, k < 133 → gi (digsL Q) k = digN (fullL Q) k := digsL_at Q
  have hcl' : Hid (∀ k, (catN (zL S (nm ++ n4 q) seed Q) k).length = 32 * k) := catN_len hzl
  have hC0 : catN (zL S (nm ++ n4 q) seed Q) 0 = [] := rfl
  have hCs' : Hid (∀ k, catN (zL S (nm ++ n4 q) seed Q) (k + 1) = catN (zL S (nm ++ n4 q) seed Q) k ++ zL S (nm ++ n4 q) seed Q k) := fun _ => rfl
  generalize catN (zL S (nm ++ n4 q) seed Q) = C at *
  generalize zL S (nm ++ n4 q) seed Q = Y at *
  generalize xL S (nm ++ n4 q) seed = X at *
  generalize digsL Q = DG at *
  generalize digN (fullL Q) = D at *
  have hsg' : Hid (sigL S (nm ++ n4 q) seed msg = n4 2 ++ SA ++ C 133) := hsg
  clear hsg
  generalize sigL S (nm ++ n4 q) seed msg = SG at *
  have hX0 : (n4 2 ++ SA).length = 36 := by rw [List.length_append, hSAl]; rfl
  have z32 := zv32
  go_enter Tryd.func19, Tryd.ntmps19
  go_upto_region 1 with fail
  have r0 : Row (World.alloc (World.alloc w0 (.cells (v8 nm) 22)) (.cells (v8 seed) 24)) w0.heap.size 22 (v8 nm) := (Row.new _ _ _).alloc _
  have r1 : Row (World.alloc (World.alloc w0 (.cells (v8 nm) 22)) (.cells (v8 seed) 24)) (w0.heap.size + 1) 24 (v8 seed) := Row.newAt _ _ _ _ (by simp)
  have b1 : Below w0.heap.size w0 (World.alloc (World.alloc w0 (.cells (v8 nm) 22)) (.cells (v8 seed) 24)) := ((Below.refl _ _).alloc (Nat.le_refl _) _).alloc (by simp) _
  change Code.wp _ _ _ _ ((World.alloc (World.alloc w0 (.cells (v8 nm) 22)) (.cells (v8 seed) 24)))
  generalize (World.alloc (World.alloc w0 (.cells (v8 nm) 22)) (.cells (v8 seed) 24)) = w1 at r0 r1 b1 ⊢
  have hr1 := r1.lt
  obtain ⟨B, hB⟩ : ∃ B, B = w1.heap.size := ⟨_, rfl⟩
  have hsB : ∀ {w : World}, Below B w1 w → B ≤ w.heap.size := fun h => by have := h.size; omega
  refine region_invFA  (by kernel_rfl) (by kernel_rfl) (fun a0 listed a w => ∃ s9 s14 s15 s16 s17 s18 s19 s20 s21 s22, a = (Act.put (Act.put (Act.put (Act.put (Act.put (Act.put (Act.put (Act.put (Act.put (Act.put a0 (some 9) s9) (some 14) s14) (some 15) s15) (some 16) s16) (some 17) s17) (some 18) s18) (some 19) s19) (some 20) s20) (some 21) s21) (some 22) s22) ∧ Below B w1 w ∧ (listed.getD 0 false = true → s14 = .agg (v8 nm)) ∧ (listed.getD 1 false = true → s15 = .int .i64 q) ∧ (listed.getD 2 false = true → listed.getD 3 false = false → OwnS w B s16 20 (nm ++ n4 q)) ∧ (listed.getD 3 false = true → listed.getD 5 false = false → OwnS w B s17 22 ((nm ++ n4 q) ++ n2 65533)) ∧ (listed.getD 4 false = true → listed.getD 5 false = false → LitS w B s18 1 [255]) ∧ (listed.getD 5 false = true → listed.getD 7 false = false → OwnS w B s19 23 ((nm ++ n4 q) ++ n2 65533 ++ [255])) ∧ (listed.getD 6 false = true → s20 = .slice (some ⟨w0.heap.size + 1, 0, none⟩) 32 32) ∧ (listed.getD 7 false = true → listed.getD 8 false = false → OwnS w B s21 55 ((nm ++ n4 q) ++ n2 65533 ++ [255] ++ seed)) ∧ (listed.getD 8 false = true → s22 = .agg (v8 SA)) ∧ (listed.getD 9 false = true → listed.getD 10 false = false → VarS w B s9 24 (zer 32)) ∧ (listed.getD 10 false = true → VarS w B s9 24 SA) ∧ (listed.getD 4 false = true → listed.getD 5 false = false → listed.getD 2 false = true → listed.getD 3 false = false → s18.ownBlock ≠ s16.ownBlock)) ?_ ?_ ?_
  all_goals simp only [Act.put, List.setIfInBounds_toArray, List.set_cons_succ, List.set_cons_zero]
  · exact ⟨undef, undef, undef, undef, undef, undef, undef, undef, undef, undef, rfl, (Below.refl B _).drew, (fun h => by rw [getD_replicate_false] at h; cases h), (fun h => by rw [getD_replicate_false] at h; cases h), (fun h => by rw [getD_replicate_false] at h; cases h), (fun h => by rw [getD_replicate_false] at h; cases h), (fun h => by rw [getD_replicate_false] at h; cases h), (fun h => by rw [getD_replicate_false] at h; cases h), (fun h => by rw [getD_replicate_false] at h; cases h), (fun h => by rw [getD_replicate_false] at h; cases h), (fun h => by rw [getD_replicate_false] at h; cases h), (fun h => by rw [getD_replicate_false] at h; cases h), (fun h => by rw [getD_replicate_false] at h; cases h), (fun h => by rw [getD_replicate_false] at h; cases h)⟩
  · intro listed a w i o hls hJ hin ho hi hall hcl
    obtain ⟨s9, s14, s15, s16, s17, s18, s19, s20, s21, s22, rfl, hbW, c0, c1, c2, c3, c4, c5, c6, c7, c8, c9, c10, d4_2⟩ := hJ
    replace hin : i < 11 := hin
    rcases (by omega : i = 0 ∨ i = 1 ∨ i = 2 ∨ i = 3 ∨ i = 4 ∨ i = 5 ∨ i = 6 ∨ i = 7 ∨ i = 8 ∨ i = 9 ∨ i = 10) with rfl | rfl | rfl | rfl | rfl | rfl | rfl | rfl | rfl | rfl | rfl
    · obtain rfl := Option.some.inj ho
      have hsz : 0 < listed.size := by rw [hls]; decide
      have hbw := hbW
      refine inv_val (w' := w) (.agg (v8 nm)) rfl rfl (exec_load_row 22 (.tmp 4) rfl w0.heap.size rfl 22 _ _ (r0.below hbW (by omega)) Tryd.underlying22 rfl (name_info hn)) ?_
      exact ⟨s9, (.agg (v8 nm)), s15, s16, s17, s18, s19, s20, s21, s22, rfl, hbw, (fun _ => rfl), (fun h => c1 (bit_ne h (by decide))), (fun h h2 => c2 (bit_ne h (by decide)) (bit_ne h2 (by decide))), (fun h h2 => c3 (bit_ne h (by decide)) (bit_ne h2 (by decide))), (fun h h2 => c4 (bit_ne h (by decide)) (bit_ne h2 (by decide))), (fun h h2 => c5 (bit_ne h (by decide)) (bit_ne h2 (by decide))), (fun h => c6 (bit_ne h (by decide))), (fun h h2 => c7 (bit_ne h (by decide)) (bit_ne h2 (by decide))), (fun h => c8 (bit_ne h (by decide))), (fun h h2 => c9 (bit_ne h (by decide)) (bit_ne h2 (by decide))), (fun h => c10 (bit_ne h (by decide))), (fun h h2 h3 h4 => d4_2 (bit_ne h (by decide)) (bit_ne h2 (by decide)) (bit_ne h3 (by decide)) (bit_ne h4 (by decide)))⟩
    · obtain rfl := Option.some.inj ho
      have hsz : 1 < listed.size := by rw [hls]; decide
      have hbw := hbW
      refine inv_val (w' := w) (.int .i64 q) rfl rfl rfl ?_
      exact ⟨s9, s14, (.int .i64 q), s16, s17, s18, s19, s20, s21, s22, rfl, hbw, (fun h => c0 (bit_ne h (by decide))), (fun _ => rfl), (fun h h2 => c2 (bit_ne h (by decide)) (bit_ne h2 (by decide))), (fun h h2 => c3 (bit_ne h (by decide)) (bit_ne h2 (by decide))), (fun h h2 => c4 (bit_ne h (by decide)) (bit_ne h2 (by decide))), (fun h h2 => c5 (bit_ne h (by decide)) (bit_ne h2 (by decide))), (fun h => c6 (bit_ne h (by decide))), (fun h h2 => c7 (bit_ne h (by decide)) (bit_ne h2 (by decide))), (fun h => c8 (bit_ne h (by decide))), (fun h h2 => c9 (bit_ne h (by decide)) (bit_ne h2 (by decide))), (fun h => c10 (bit_ne h (by decide))), (fun h h2 h3 h4 => d4_2 (bit_ne h (by decide)) (bit_ne h2 (by decide)) (bit_ne h3 (by decide)) (bit_ne h4 (by decide)))⟩
    · obtain rfl := Option.some.inj ho
      have hsz : 2 < listed.size := by rw [hls]; decide
      have hdep0 : listed.getD 0 false = true := hall ⟨0, .data⟩ (by simp) (by rfl)
      obtain rfl := c0 hdep0
      have hdep1 : listed.getD 1 false = true := hall ⟨1, .data⟩ (by simp) (by rfl)
      obtain rfl := c1 hdep1
      refine inv_call 33 #[.agg (v8 nm), .int .i64 q] _ rfl rfl (by kernel_rfl) (rhead_any nm q w hn) ?_
      rintro e w' ⟨sp, cap, rfl, ow, hb⟩
      have hbw : Below B w1 w' := hbW.trans (hb.mono (hsB hbW))
      refine ⟨_, rfl, ?_⟩
      have me_d4_2 := fun (h : LitS w B s18 1 [255]) => h.ne_own ow
      exact ⟨s9, (.agg (v8 nm)), (.int .i64 q), (.slice sp 20 cap), s17, s18, s19, s20, s21, s22, rfl, hbw, (fun h => c0 (bit_ne h (by decide))), (fun h => c1 (bit_ne h (by decide))), (fun _ _ => ⟨sp, cap, rfl, ow.mono (hsB hbW)⟩), (fun h h2 => (c3 (bit_ne h (by decide)) (bit_ne h2 (by decide))).below hb), (fun h h2 => (c4 (bit_ne h (by decide)) (bit_ne h2 (by decide))).below hb), (fun h h2 => (c5 (bit_ne h (by decide)) (bit_ne h2 (by decide))).below hb), (fun h => c6 (bit_ne h (by decide))), (fun h h2 => (c7 (bit_ne h (by decide)) (bit_ne h2 (by decide))).below hb), (fun h => c8 (bit_ne h (by decide))), (fun h h2 => (c9 (bit_ne h (by decide)) (bit_ne h2 (by decide))).below hb), (fun h => (c10 (bit_ne h (by decide))).below hb), (fun h h2 _ _ => me_d4_2 (c4 (bit_ne h (by decide)) (bit_ne h2 (by decide))))⟩
    · obtain rfl := Option.some.inj ho
      have hsz : 3 < listed.size := by rw [hls]; decide
      have hdep2 : listed.getD 2 false = true := hall ⟨2, .data⟩ (by simp) (by rfl)
      obtain ⟨sp2, cap2, rfl, o2⟩ := c2 hdep2 hi
      refine inv_call 41 #[.slice sp2 20 cap2, .int .i64 65533] _ rfl rfl (by kernel_rfl) (rtwo_any (nm ++ n4 q) 65533 _ w B o2 (by omega) (hsB hbW)) ?_
      rintro e w' ⟨sp, cap, rfl, ow, hb', hg, _⟩
      have hbw : Below B w1 w' := hbW.trans hb'
      have hown := o2
      refine ⟨_, rfl, ?_⟩
      exact ⟨s9, s14, s15, (.slice sp2 20 cap2), (.slice sp ((nm ++ n4 q).length + 2) cap), s18, s19, s20, s21, s22, rfl, hbw, (fun h => c0 (bit_ne h (by decide))), (fun h => c1 (bit_ne h (by decide))), (fun _ h2 => absurd (bit_on hsz) (by rw [h2]; decide)), (fun _ _ => ⟨sp, cap, (by rw [hH]), (by rw [hH] at ow; exact ow)⟩), (fun h h2 => (c4 (bit_ne h (by decide)) (bit_ne h2 (by decide))).grew hg (d4_2 (bit_ne h (by decide)) (bit_ne h2 (by decide)) hdep2 hi)), (fun h _ => absurd (hcl 5 _ rfl (bit_ne h (by decide)) ⟨3, .data⟩ (by simp) rfl) (by rw [hi]; decide)), (fun h => c6 (bit_ne h (by decide))), (fun h _ => absurd (hcl 5 _ rfl (hcl 7 _ rfl (bit_ne h (by decide)) ⟨5, .data⟩ (by simp) rfl) ⟨3, .data⟩ (by simp) rfl) (by rw [hi]; decide)), (fun h => c8 (bit_ne h (by decide))), (fun h h2 => (c9 (bit_ne h (by decide)) (bit_ne h2 (by decide))).grew hg hown (by decide)), (fun h => (c10 (bit_ne h (by decide))).grew hg hown (by decide)), (fun _ _ _ h4 => absurd (bit_on hsz) (by rw [h4]; decide))⟩
    · obtain rfl := Option.some.inj ho
      have hsz : 4 < listed.size := by rw [hls]; decide
      have hbw : Below B w1 (w.alloc (.cells (v8 [255]) 5)) := hbW.alloc (hsB hbW) _
      refine inv_val (.slice (some ⟨w.heap.size, 0, none⟩) 1 1) (w' := w.alloc (.cells (v8 [255]) 5)) rfl rfl (by kernel_rfl) ?_
      exact ⟨s9, s14, s15, s16, s17, (.slice (some ⟨w.heap.size, 0, none⟩) 1 1), s19, s20, s21, s22, rfl, hbw, (fun h => c0 (bit_ne h (by decide))), (fun h => c1 (bit_ne h (by decide))), (fun h h2 => (c2 (bit_ne h (by decide)) (bit_ne h2 (by decide))).alloc _), (fun h h2 => (c3 (bit_ne h (by decide)) (bit_ne h2 (by decide))).alloc _), (fun _ _ => LitS.new w B (hsB hbW) 1 [255] rfl), (fun h h2 => (c5 (bit_ne h (by decide)) (bit_ne h2 (by decide))).alloc _), (fun h => c6 (bit_ne h (by decide))), (fun h h2 => (c7 (bit_ne h (by decide)) (bit_ne h2 (by decide))).alloc _), (fun h => c8 (bit_ne h (by decide))), (fun h h2 => (c9 (bit_ne h (by decide)) (bit_ne h2 (by decide))).alloc _), (fun h => (c10 (bit_ne h (by decide))).alloc _), (fun _ _ h3 h4 => litNew (c2 (bit_ne h3 (by decide)) (bit_ne h4 (by decide))))⟩
    · obtain rfl := Option.some.inj ho
      have hsz : 5 < listed.size := by rw [hls]; decide
      have hdep3 : listed.getD 3 false = true := hall ⟨3, .data⟩ (by simp) (by rfl)
      obtain ⟨sp3, cap3, rfl, o3⟩ := c3 hdep3 hi
      have hdep4 : listed.getD 4 false = true := hall ⟨4, .data⟩ (by simp) (by rfl)
      obtain ⟨b4, rfl, r4, hb4⟩ := c4 hdep4 hi
      refine inv_op rfl rfl (wp8g (.tmp 17) (.tmp 18) 28 5 rfl B Tryd.underlying28 info5 _ ((nm ++ n4 q) ++ n2 65533) rfl o3 (some ⟨b4, 0, none⟩) 1 1 [255] rfl rfl (fun h => by cases h) r4.bytes (by first | omega | simp | (simp; omega)) (hsB hbW) ?_)
      intro sp cap w' ow hb' hgg
      have hg := Grew.of hgg
      have hbw : Below B w1 w' := hbW.trans hb'
      have hown := o3
      rw [hX23] at ow ⊢
      exact ⟨s9, s14, s15, s16, (.slice sp3 22 cap3), (.slice (some ⟨b4, 0, none⟩) 1 1), (.slice sp 23 cap), s20, s21, s22, rfl, hbw, (fun h => c0 (bit_ne h (by decide))), (fun h => c1 (bit_ne h (by decide))), (fun _ h2 => absurd hdep3 (by rw [bit_ne h2 (by decide)]; decide)), (fun _ h2 => absurd (bit_on hsz) (by rw [h2]; decide)), (fun _ h2 => absurd (bit_on hsz) (by rw [h2]; decide)), (fun _ _ => ⟨sp, cap, rfl, ow⟩), (fun h => c6 (bit_ne h (by decide))), (fun h _ => absurd (hcl 7 _ rfl (bit_ne h (by decide)) ⟨5, .data⟩ (by simp) rfl) (by rw [hi]; decide)), (fun h => c8 (bit_ne h (by decide))), (fun h h2 => (c9 (bit_ne h (by decide)) (bit_ne h2 (by decide))).grew hg hown (by decide)), (fun h => (c10 (bit_ne h (by decide))).grew hg hown (by decide)), (fun _ h2 _ _ => absurd (bit_on hsz) (by rw [h2]; decide))⟩
    · obtain rfl := Option.some.inj ho
      have hsz : 6 < listed.size := by rw [hls]; decide
      have hbw := hbW
      refine inv_val (w' := w) (.slice (some ⟨w0.heap.size + 1, 0, none⟩) 32 32) rfl rfl (by kernel_rfl) ?_
      exact ⟨s9, s14, s15, s16, s17, s18, s19, (.slice (some ⟨w0.heap.size + 1, 0, none⟩) 32 32), s21, s22, rfl, hbw, (fun h => c0 (bit_ne h (by decide))), (fun h => c1 (bit_ne h (by decide))), (fun h h2 => c2 (bit_ne h (by decide)) (bit_ne h2 (by decide))), (fun h h2 => c3 (bit_ne h (by decide)) (bit_ne h2 (by decide))), (fun h h2 => c4 (bit_ne h (by decide)) (bit_ne h2 (by decide))), (fun h h2 => c5 (bit_ne h (by decide)) (bit_ne h2 (by decide))), (fun _ => rfl), (fun h h2 => c7 (bit_ne h (by decide)) (bit_ne h2 (by decide))), (fun h => c8 (bit_ne h (by decide))), (fun h h2 => c9 (bit_ne h (by decide)) (bit_ne h2 (by decide))), (fun h => c10 (bit_ne h (by decide))), (fun h h2 h3 h4 => d4_2 (bit_ne h (by decide)) (bit_ne h2 (by decide)) (bit_ne h3 (by decide)) (bit_ne h4 (by decide)))⟩
    · obtain rfl := Option.some.inj ho
      have hsz : 7 < listed.size := by rw [hls]; decide
      have hdep5 : listed.getD 5 false = true := hall ⟨5, .data⟩ (by simp) (by rfl)
      obtain ⟨sp5, cap5, rfl, o5⟩ := c5 hdep5 hi
      have hdep6 : listed.getD 6 false = true := hall ⟨6, .data⟩ (by simp) (by rfl)
      obtain rfl := c6 hdep6
      refine inv_op rfl rfl (wp8g (.tmp 19) (.tmp 20) 28 5 rfl B Tryd.underlying28 info5 _ ((nm ++ n4 q) ++ n2 65533 ++ [255]) rfl o5 (some ⟨w0.heap.size + 1, 0, none⟩) 32 32 seed rfl hs (fun h => by cases h) ((r1.below hbW (by omega)).bytes) (by first | omega | simp | (simp; omega)) (hsB hbW) ?_)
      intro sp cap w' ow hb' hgg
      have hg := Grew.of hgg
      have hbw : Below B w1 w' := hbW.trans hb'
      have hown := o5
      rw [hX55] at ow ⊢
      exact ⟨s9, s14, s15, s16, s17, s18, (.slice sp5 23 cap5), (.slice (some ⟨w0.heap.size + 1, 0, none⟩) 32 32), (.slice sp 55 cap), s22, rfl, hbw, (fun h => c0 (bit_ne h (by decide))), (fun h => c1 (bit_ne h (by decide))), (fun _ h2 => absurd (hcl 5 _ rfl hdep5 ⟨3, .data⟩ (by simp) rfl) (by rw [bit_ne h2 (by decide)]; decide)), (fun _ h2 => absurd hdep5 (by rw [bit_ne h2 (by decide)]; decide)), (fun _ h2 => absurd hdep5 (by rw [bit_ne h2 (by decide)]; decide)), (fun _ h2 => absurd (bit_on hsz) (by rw [h2]; decide)), (fun h => c6 (bit_ne h (by decide))), (fun _ _ => ⟨sp, cap, rfl, ow⟩), (fun h => c8 (bit_ne h (by decide))), (fun h h2 => (c9 (bit_ne h (by decide)) (bit_ne h2 (by decide))).grew hg hown (by decide)), (fun h => (c10 (bit_ne h (by decide))).grew hg hown (by decide)), (fun h h2 h3 h4 => d4_2 (bit_ne h (by decide)) (bit_ne h2 (by decide)) (bit_ne h3 (by decide)) (bit_ne h4 (by decide)))⟩
    · obtain rfl := Option.some.inj ho
      have hsz : 8 < listed.size := by rw [hls]; decide
      have hdep7 : listed.getD 7 false = true := hall ⟨7, .data⟩ (by simp) (by rfl)
      obtain ⟨sp7, cap7, rfl, o7⟩ := c7 hdep7 hi
      refine inv_call 36 #[.slice sp7 55 cap7] _ rfl rfl (by kernel_rfl) (hrs sp7 cap7 w (own_nil o7 (by rw [hX55]; omega)) o7.bytes) ?_
      rintro e w' ⟨rfl, hb⟩
      have hbw : Below B w1 w' := hbW.trans (hb.mono (hsB hbW))
      refine ⟨_, rfl, ?_⟩
      exact ⟨s9, s14, s15, s16, s17, s18, s19, s20, (.slice sp7 55 cap7), (.agg (v8 SA)), rfl, hbw, (fun h => c0 (bit_ne h (by decide))), (fun h => c1 (bit_ne h (by decide))), (fun h h2 => (c2 (bit_ne h (by decide)) (bit_ne h2 (by decide))).below hb), (fun h h2 => (c3 (bit_ne h (by decide)) (bit_ne h2 (by decide))).below hb), (fun h h2 => (c4 (bit_ne h (by decide)) (bit_ne h2 (by decide))).below hb), (fun h h2 => (c5 (bit_ne h (by decide)) (bit_ne h2 (by decide))).below hb), (fun h => c6 (bit_ne h (by decide))), (fun _ h2 => absurd (bit_on hsz) (by rw [h2]; decide)), (fun _ => rfl), (fun h h2 => (c9 (bit_ne h (by decide)) (bit_ne h2 (by decide))).below hb), (fun h => (c10 (bit_ne h (by decide))).below hb), (fun h h2 h3 h4 => d4_2 (bit_ne h (by decide)) (bit_ne h2 (by decide)) (bit_ne h3 (by decide)) (bit_ne h4 (by decide)))⟩
    · obtain rfl := Option.some.inj ho
      have hsz : 9 < listed.size := by rw [hls]; decide
      have hbw : Below B w1 (w.alloc (.cells (v8 (zer 32)) 24)) := hbW.alloc (hsB hbW) _
      refine inv_val (.pointer (some ⟨w.heap.size, 0, none⟩)) (w' := w.alloc (.cells (v8 (zer 32)) 24)) rfl rfl (by kernel_rfl) ?_
      exact ⟨(.pointer (some ⟨w.heap.size, 0, none⟩)), s14, s15, s16, s17, s18, s19, s20, s21, s22, rfl, hbw, (fun h => c0 (bit_ne h (by decide))), (fun h => c1 (bit_ne h (by decide))), (fun h h2 => (c2 (bit_ne h (by decide)) (bit_ne h2 (by decide))).alloc _), (fun h h2 => (c3 (bit_ne h (by decide)) (bit_ne h2 (by decide))).alloc _), (fun h h2 => (c4 (bit_ne h (by decide)) (bit_ne h2 (by decide))).alloc _), (fun h h2 => (c5 (bit_ne h (by decide)) (bit_ne h2 (by decide))).alloc _), (fun h => c6 (bit_ne h (by decide))), (fun h h2 => (c7 (bit_ne h (by decide)) (bit_ne h2 (by decide))).alloc _), (fun h => c8 (bit_ne h (by decide))), (fun _ _ => VarS.new w B (hsB hbW) _ _), (fun h => absurd (hcl 10 _ rfl (bit_ne h (by decide)) ⟨9, .data⟩ (by simp) rfl) (by rw [hi]; decide)), (fun h h2 h3 h4 => d4_2 (bit_ne h (by decide)) (bit_ne h2 (by decide)) (bit_ne h3 (by decide)) (bit_ne h4 (by decide)))⟩
    · obtain rfl := Option.some.inj ho
      have hsz : 10 < listed.size := by rw [hls]; decide
      have hdep9 : listed.getD 9 false = true := hall ⟨9, .data⟩ (by simp) (by rfl)
      have hdep8 : listed.getD 8 false = true := hall ⟨8, .data⟩ (by simp) (by rfl)
      obtain rfl := c8 hdep8
      obtain ⟨bV, rfl, rV, hbV⟩ := c9 hdep9 hi
      refine inv_store 24 (.tmp 9) (.tmp 22) rfl rfl rfl rfl bV SA rfl rfl 24 (zer 32) rV (id_info hSAl) (by rw [hSAl, zer_len]) ?_
      have hbw : Below B w1 (w.setRow bV (v8 SA)) := below_setRow hbW hbV _
      exact ⟨(.pointer (some ⟨bV, 0, none⟩)), s14, s15, s16, s17, s18, s19, s20, s21, (.agg (v8 SA)), rfl, hbw, (fun h => c0 (bit_ne h (by decide))), (fun h => c1 (bit_ne h (by decide))), (fun h h2 => (c2 (bit_ne h (by decide)) (bit_ne h2 (by decide))).setVar rV (by decide)), (fun h h2 => (c3 (bit_ne h (by decide)) (bit_ne h2 (by decide))).setVar rV (by decide)), (fun h h2 => (c4 (bit_ne h (by decide)) (bit_ne h2 (by decide))).setVar rV (by decide)), (fun h h2 => (c5 (bit_ne h (by decide)) (bit_ne h2 (by decide))).setVar rV (by decide)), (fun h => c6 (bit_ne h (by decide))), (fun h h2 => (c7 (bit_ne h (by decide)) (bit_ne h2 (by decide))).setVar rV (by decide)), (fun h => c8 (bit_ne h (by decide))), (fun _ h2 => absurd (bit_on hsz) (by rw [h2]; decide)), (fun _ => ⟨bV, rfl, rV.setRow _, hbV⟩), (fun h h2 h3 h4 => d4_2 (bit_ne h (by decide)) (bit_ne h2 (by decide)) (bit_ne h3 (by decide)) (bit_ne h4 (by decide)))⟩
  · intro listed a w hall hJ
    obtain ⟨s9, s14, s15, s16, s17, s18, s19, s20, s21, s22, rfl, hbW, c0, c1, c2, c3, c4, c5, c6, c7, c8, c9, c10, d4_2⟩ := hJ
    obtain rfl := c0 (hall 0 (by decide))
    obtain rfl := c1 (hall 1 (by decide))
    obtain rfl := c6 (hall 6 (by decide))
    obtain rfl := c8 (hall 8 (by decide))
    obtain ⟨b10, rfl, r10, hb10⟩ := c10 (hall 10 (by decide))
    have p0 := r0.below hbW (by omega)
    have p1 := r1.below hbW (by omega)
    have p2 := r10
    have pb := b1.trans (hbW.mono (by omega))
    have hb9' : w0.heap.size + 1 < b10 := by omega
    clear r0 r1 b1 hbW r10 hb10 c2 c3 c4 c5 c7 c9 d4_2 hall hrs hsB hB hr1 hX22 hX23 hX55
    generalize w = w2 at p0 p1 p2 pb ⊢
    generalize b10 = b9 at *
    have hp2 := p2.lt
    go_upto_region 2 with fail
    refine region_alloc 5 69 (v64 (zer 133)) 10 (by kernel_rfl) (by kernel_rfl) (by rfl) (by kernel_rfl) ?hal ?hh
    case hal =>
      intro a w o ho
      cases ho
      kernel_rfl
    case hh =>
      apply Exists.intro
      refine ⟨fun ι _ W hb hc => ?_, fun gA w3 hgA hbel3 hrow => ?_⟩
      · have t0 : ∀ i, Row (W i) w0.heap.size 22 (v8 nm) := fun i => p0.below (hb i) p0.lt
        have t2 : ∀ i, Row (W i) b9 24 (v8 SA) := fun i => p2.below (hb i) p2.lt
        have tm : ∀ i, Bytes (W i) mp msg := fun i => hmb.below (pb.trans ((hb i).mono pb.size))
        simp only [List.take_succ_cons, List.take_zero]
        refine q_load_row 22 (.tmp 4) (by rfl) (by rfl) (w0.heap.size) (by rfl) 22 _ _ t0 Tryd.underlying22 rfl (name_info hn) ?_
        simp only [Act.put, List.setIfInBounds_toArray, List.set_cons_succ, List.set_cons_zero]
        go_big_quiet_step (fail)
        go_big_quiet_step (fail)
        go_big_quiet_step (fail)
        go_big_quiet_step ((go_at_call 42; exact (hdg (some ⟨b9, 0, none⟩) _ (fun h => by cases h) (t2 _).bytes (tm _)).mono (fun e w' ⟨he, hw⟩ => ⟨he, hc _ _ hw⟩)))
        exact wpQuiet_nil rfl
      · simp only [List.drop_succ_cons, List.drop_zero, Act.put, List.setIfInBounds_toArray, List.set_cons_succ, List.set_cons_zero]
        have hi69 : (Tryd.prog.info? 69).map (·.size) = some (v64 DG).size := by rw [v64_size, hDl]; kernel_rfl
        refine store_row0 69 (.tmp 10) (.tmp 27) (by rfl) (by rfl) (by rfl) gA (v64 DG) (by rfl) (by rfl) 69 _ hrow hi69 (by rw [v64_size, v64_size, hDl, zer_len]) (v64_one _) ?_
        have hs3 := hbel3.size
        have x0 := (p0.below hbel3 p0.lt).setRowOther (g := gA) (by omega) (v64 DG)
        have x1 := (p1.below hbel3 p1.lt).setRowOther (g := gA) (by omega) (v64 DG)
        have x2 := (p2.below hbel3 p2.lt).setRowOther (g := gA) (by omega) (v64 DG)
        have x3 := hrow.setRow (v64 DG)
        have xb := below_setRow (g := gA) (pb.trans (hbel3.mono pb.size)) (by have := pb.size; omega) (v64 DG)
        have hgA' : b9 < gA := by omega
        generalize w3.setRow gA (v64 DG) = w4 at x0 x1 x2 x3 xb ⊢
        clear p0 p1 p2 pb hbel3 hrow hp2 hs3 hgA hdg
        have hx3 := x3.lt
        obtain ⟨B3, hB3⟩ : ∃ B3, B3 = w4.heap.size := ⟨_, rfl⟩
        have hsB : ∀ {w : World}, Below B3 w4 w → B3 ≤ w.heap.size := fun h => by have := h.size; omega
        have rf : ∀ wx : World, Calls Tryd.prog 43 #[.slice none 0 0, .int .i64 2] wx fun e w' => ∃ sp cap, e = .returned (.slice sp 4 cap) ∧ Own8 w' wx.heap.size 5 (.slice sp 4 cap) (n4 2) ∧ Below wx.heap.size wx w' := fun wx => by
          refine (rfour_any [] 2 (.slice none 0 0) wx wx.heap.size (World.ownsRow_nil _ _ _ _) (by simp) (Nat.le_refl _)).mono ?_
          rintro e w' ⟨sp, cap, rfl, ow, hb, _, _⟩
          exact ⟨sp, cap, rfl, ow, hb⟩
        have hn42 : (n4 2).length = 4 := rfl
        go_upto_region 3 with fail
        obtain ⟨B, hBe⟩ : ∃ B, B = B3 := ⟨_, rfl⟩
        rw [← hBe] at hB3 hsB
        clear hBe
        refine region_invF 3 (by kernel_rfl) (by kernel_rfl) (fun a0 listed a w => ∃ s28 s29 s30, a = (Act.put (Act.put (Act.put a0 (some 28) s28) (some 29) s29) (some 30) s30) ∧ Below B w4 w ∧ (listed.getD 0 false = true → listed.getD 2 false = false → OwnS w B s28 4 (n4 2)) ∧ (listed.getD 1 false = true → s29 = .slice (some ⟨b9, 0, none⟩) 32 32) ∧ (listed.getD 2 false = true → OwnS w B s30 36 (n4 2 ++ SA))) ?_ ?_ ?_
        all_goals simp only [Act.put, List.setIfInBounds_toArray, List.set_cons_succ, List.set_cons_zero]
        · exact ⟨undef, undef, undef, rfl, (Below.refl B _).drew, (fun h => by rw [getD_replicate_false] at h; cases h), (fun h => by rw [getD_replicate_false] at h; cases h), (fun h => by rw [getD_replicate_false] at h; cases h)⟩
        · intro listed a w i o hls hJ hin ho hi hall hcl
          obtain ⟨s28, s29, s30, rfl, hbW, c0, c1, c2⟩ := hJ
          rcases (by omega : i = 0 ∨ i = 1 ∨ i = 2) with rfl | rfl | rfl
          · obtain rfl := Option.some.inj ho
            have hsz : 0 < listed.size := by rw [hls]; decide
            refine inv_call 43 #[.slice none 0 0, .int .i64 2] _ rfl rfl (by kernel_rfl) (rf w) ?_
            rintro e w' ⟨sp, cap, rfl, ow, hb⟩
            have hbw : Below B w4 w' := hbW.trans (hb.mono (hsB hbW))
            refine ⟨_, rfl, ?_⟩
            exact ⟨(.slice sp 4 cap), s29, s30, rfl, hbw, (fun _ _ => ⟨sp, cap, rfl, ow.mono (hsB hbW)⟩), (fun h => c1 (bit_ne h (by decide))), (fun h => (c2 (bit_ne h (by decide))).below hb)⟩
          · obtain rfl := Option.some.inj ho
            have hsz : 1 < listed.size := by rw [hls]; decide
            have hbw := hbW
            refine inv_val (w' := w) (.slice (some ⟨b9, 0, none⟩) 32 32) rfl rfl (by kernel_rfl) ?_
            exact ⟨s28, (.slice (some ⟨b9, 0, none⟩) 32 32), s30, rfl, hbw, (fun h h2 => c0 (bit_ne h (by decide)) (bit_ne h2 (by decide))), (fun _ => rfl), (fun h => c2 (bit_ne h (by decide)))⟩
          · obtain rfl := Option.some.inj ho
            have hsz : 2 < listed.size := by rw [hls]; decide
            have hdep0 : listed.getD 0 false = true := hall ⟨0, .data⟩ (by simp) (by rfl)
            obtain ⟨sp0, cap0, rfl, o0⟩ := c0 hdep0 hi
            have hdep1 : listed.getD 1 false = true := hall ⟨1, .data⟩ (by simp) (by rfl)
            obtain rfl := c1 hdep1
            refine inv_op rfl rfl (wp8g (.tmp 28) (.tmp 29) 28 5 rfl B Tryd.underlying28 info5 _ (n4 2) rfl o0 (some ⟨b9, 0, none⟩) 32 32 SA rfl hSAl (fun h => by cases h) ((x2.below hbW (by omega)).bytes) (by first | omega | simp | (simp; omega)) (hsB hbW) ?_)
            intro sp cap w' ow hb' hgg
            have hg := Grew.of hgg
            have hbw : Below B w4 w' := hbW.trans hb'
            have hown := o0
            rw [hX0] at ow ⊢
            exact ⟨(.slice sp0 4 cap0), (.slice (some ⟨b9, 0, none⟩) 32 32), (.slice sp 36 cap), rfl, hbw, (fun _ h2 => absurd (bit_on hsz) (by rw [h2]; decide)), (fun h => c1 (bit_ne h (by decide))), (fun _ => ⟨sp, cap, rfl, ow⟩)⟩
        · intro listed a w hall hJ
          obtain ⟨s28, s29, s30, rfl, hbW, c0, c1, c2⟩ := hJ
          obtain rfl := c1 (hall 1 (by omega))
          obtain ⟨sp2, cap2, rfl, o2⟩ := c2 (hall 2 (by omega))
          simp only [List.drop_succ_cons, List.drop_zero]
          have q0 := x0.below hbW (by omega)
          have q1 := x1.below hbW (by omega)
          have q3 := x3.below hbW (by omega)
          have qb := xb.trans (hbW.mono (by have := xb.size; omega))
          have hsw := hsB hbW
          clear x0 x1 x2 x3 xb hbW c0 hall hsB rf
          generalize n4 2 ++ SA = X0 at *
          generalize w = w5 at q0 q1 q3 qb o2 hsw ⊢
          go_wp2
          go_loopw [11, 12] (fun bv v wr => ∃ (k : Nat) (spk : Option Addr) (capk : Nat), k ≤ 133 ∧ bv = .slice spk (36 + 32 * k) capk ∧ v = .int .i64 (k : Int) ∧ Own8 wr B 5 (.slice spk (36 + 32 * k) capk) (X0 ++ C k) ∧ Row wr w0.heap.size 22 (v8 nm) ∧ Row wr (w0.heap.size + 1) 24 (v8 seed) ∧ Row wr gA 69 (v64 DG) ∧ Below w0.heap.size w0 wr ∧ B ≤ wr.heap.size) (fun _ v _ => 133 - (intOf v).toNat)
          case atStart => exact ⟨0, sp2, cap2, by omega, rfl, rfl, by simpa [hC0] using o2, q0, q1, q3, qb, hsw⟩
          case round =>
            clear q0 q1 q3 qb o2 hsw
            obtain ⟨k, spk, capk, hk, rfl, rfl, ok, z0, z1, z3, zb, hsz⟩ := hrel
            have hgB : gA < B := by omega
            by_cases hlt : k < 133
            · have hCl := hcl'.out k
              have hYk := hzl k
              have hXk : (X0 ++ C k).length = 36 + 32 * k := by rw [List.length_append, hX0, hCl]
              have hXk1 : (X0 ++ C k ++ Y k).length = 36 + 32 * (k + 1) := by rw [List.length_append, hXk, hYk]; omega
              have hnx : Hid (X0 ++ C k ++ Y k = X0 ++ C (k + 1)) := by show _ = _; rw [hCs'.out k, List.append_assoc]
              have hDk := hDat k hlt
              go_upto_region 7 with fail
              refine region_alloc 12 24 (v8 (zer 32)) 13 (by kernel_rfl) (by kernel_rfl) (by rfl) (by kernel_rfl) ?hal2 ?hh2
              case hal2 =>
                intro a w o ho
                cases ho
                kernel_rfl
              case hh2 =>
                apply Exists.intro
                refine ⟨fun ι _ W hb hc => ?_, fun b w2 hb2 hbel2 hrow => ?_⟩
                · have t0 : ∀ i, Row (W i) w0.heap.size 22 (v8 nm) := fun i => z0.below (hb i) z0.lt
                  have t1 : ∀ i, Row (W i) (w0.heap.size + 1) 24 (v8 seed) := fun i => z1.below (hb i) z1.lt
                  have t3 : ∀ i, (W i).cell? ⟨gA, k, none⟩ = some (.int .i64 (D k)) := fun i => by
                    rw [← hDk]; exact (z3.below (hb i) z3.lt).cell64 (by omega)
                  simp only [List.take_succ_cons, List.take_zero]
                  refine q_load_row 22 (.tmp 4) (by rfl) (by rfl) (w0.heap.size) (by rfl) 22 _ _ t0 Tryd.underlying22 rfl (name_info hn) ?_
                  simp only [Act.put, List.setIfInBounds_toArray, List.set_cons_succ, List.set_cons_zero]
                  go_big_quiet_step (fail)
                  go_big_quiet_step (fail)
                  go_big_quiet_step (fail)
                  go_big_quiet_step (fail)
                  go_big_quiet_step (fail)
                  refine q_load_row 22 (.tmp 4) (by rfl) (by rfl) (w0.heap.size) (by rfl) 22 _ _ t0 Tryd.underlying22 rfl (name_info hn) ?_
                  simp only [Act.put, List.setIfInBounds_toArray, List.set_cons_succ, List.set_cons_zero]
                  go_big_quiet_step (fail)
                  go_big_quiet_step (fail)
                  refine q_load_row 24 (.tmp 6) (by rfl) (by rfl) (w0.heap.size + 1) (by rfl) 24 _ _ t1 Tryd.underlying24 rfl (id_info hs) ?_
                  simp only [Act.put, List.setIfInBounds_toArray, List.set_cons_succ, List.set_cons_zero]
                  go_big_quiet_step ((go_at_call 35; exact (hx k _).mono (fun e w' ⟨he, hw⟩ => ⟨he, hc _ _ hw⟩)))
                  go_big_quiet_step ((go_at_call 34; exact (hz k _).mono (fun e w' ⟨he, hw⟩ => ⟨he, hc _ _ hw⟩)))
                  exact wpQuiet_nil rfl
                · simp only [List.drop_succ_cons, List.drop_zero, Act.put, List.setIfInBounds_toArray, List.set_cons_succ, List.set_cons_zero]
                  refine store_row0 24 (.tmp 13) (.tmp 46) (by rfl) (by rfl) (by rfl) b (v8 (Y k)) (by rfl) (by rfl) 24 _ hrow (id_info hYk) (by rw [v8_size, v8_size, hYk, zer_len]) (v8_one _) ?_
                  have hsw := hbel2.size
                  have y0 := (z0.below hbel2 z0.lt).setRowOther (g := b) (by omega) (v8 (Y k))
                  have y1 := (z1.below hbel2 z1.lt).setRowOther (g := b) (by omega) (v8 (Y k))
                  have y3 := (z3.below hbel2 z3.lt).setRowOther (g := b) (by omega) (v8 (Y k))
                  have y4 := hrow.setRow (v8 (Y k))
                  have y5 := (ok.below hbel2 (Nat.le_refl _)).setRowOther (g := b) (own_lt ok hb2) (v8 (Y k))
                  have yb := below_setRow (g := b) (zb.trans (hbel2.mono zb.size)) (by omega) (v8 (Y k))
                  have hys : B ≤ (w2.setRow b (v8 (Y k))).heap.size := by have := (below_setRow (g := b) (Below.refl b w2) (Nat.le_refl _) (v8 (Y k))).size; omega
                  generalize w2.setRow b (v8 (Y k)) = w3 at y0 y1 y3 y4 y5 yb hys ⊢
                  clear z0 z1 z3 zb hbel2 hrow ok
                  go_wp2_with (at_builtin; (refine append8g (.tmp 47) (.tmp 48) 28 5 (by rfl) (by rfl) B Tryd.underlying28 info5 (.slice spk (36 + 32 * k) capk) (X0 ++ C k) (by rfl) ?ho (some ⟨b, 0, none⟩) 32 32 (Y k) (by rfl) hYk ?hnil ?hby ?hlen ?hB ?_; (case ho => exact y5); (case hnil => exact (fun h => by cases h)); (case hby => exact y4.bytes); (case hlen => first | omega | (simp; omega) | simp); (case hB => first | omega | (simp; omega) | simp); rw [hXk1]; intro sp17 cap17 w17 o17 b17 _g17; have hs17 := b17.size))
                  go_roundw
                  case rel => exact ⟨k + 1, sp17, cap17, by omega, rfl, by go_num, by rw [← hnx.out]; exact o17, y0.below b17 (by omega), y1.below b17 (by omega), y3.below b17 (by omega), yb.trans (b17.mono (by omega)), by omega⟩
                  case measure => simp [intOf]; omega
            · obtain rfl : k = 133 := by omega
              have hso := hsg'.out
              have hfin : Own8 wr w0.heap.size 5 (.slice spk 4292 capk) SG := by rw [hso]; exact ok.mono (by omega)
              clear hso
              go_wp2
              go_ret
              exact ⟨spk, capk, rfl, hfin, zb⟩
end

section
open Go Go.RowKit

theorem exec_front {o : Oper} {a : Act} {w : World} (x : Operand) (hop : o.op = .slice 28 x none (some (.const (.int .i64 4))) none) (b off len cap : Nat) (hx : a.eval x = .slice (some ⟨b, off, none⟩) len cap) (hc : 4 ≤ cap) :
    (execOp a.eval o).run Tryd.prog w = .ok (.value (.slice (some ⟨b, off, none⟩) 4 cap)) w := by
  have h1 : (4 : Int) ≤ (cap : Int) := by omega
  have h2 : ¬ cap = 0 := by omega
  have e4 : a.eval (.const (.int .i64 4)) = .int .i64 4 := rfl
  unfold execOp
  simp only [hop, hx, Option.map, e4]
  first | (go_simp; done) | (simp only [Sem.run_bind]; go_simp; done)
theorem exec_neq_str {P : Program} {o : Oper} {a : Act} {w : World} (t t2 : TypeId) (x y : Operand) (hop : o.op = .binOp .neq t x y t2) (s r : ByteArray) (n : Bool) (hx : a.eval x = .string s) (hy : a.eval y = .string r) (hn : (!(s.toList == r.toList)) = n) :
    (execOp a.eval o).run P w = .ok (.value (.bool n)) w := by
  unfold execOp
  simp only [hop, hx, hy]
  subst hn
  simp [eqGuard, binOp, Op.stringOp]
theorem rfour_nil (wx : World) : Calls Tryd.prog 43 #[.slice none 0 0, .int .i64 2] wx fun e w' => ∃ sp cap, e = .returned (.slice sp 4 cap) ∧ Own8 w' wx.heap.size 5 (.slice sp 4 cap) (n4 2) ∧ Below wx.heap.size wx w' := by
  refine (rfour_any [] 2 (.slice none 0 0) wx wx.heap.size (World.ownsRow_nil _ _ _ _) (by simp) (Nat.le_refl _)).mono ?_
  rintro e w' ⟨sp, cap, rfl, ow, hb, _, _⟩
  exact ⟨sp, cap, rfl, ow, hb⟩

set_option maxRecDepth 20000 in
set_option maxHeartbeats 1000000 in
theorem rBack_type (nm sig : List Int) (q : Int) (mp : Option Addr) (b o ml mc cap : Nat) (w0 : World) (hsl : sig.length = 4292) (hcp : 4292 ≤ cap) (hby : Bytes w0 (some ⟨b, o, none⟩) sig) (hne : (!((strOfNums (sig.take 4)).toList == (strOfNums (n4 2)).toList)) = true) :
    Calls Tryd.prog 20 #[.agg (v8 nm), .int .i64 q, .slice mp ml mc, .slice (some ⟨b, o, none⟩) 4292 cap] w0 fun e w' => e = .returned (.tuple #[.agg (v8 (zer 32)), .int .i64 12]) ∧ Below w0.heap.size w0 w' := by
  have h4l : (sig.take 4).length = 4 := by rw [List.length_take, hsl]; rfl
  have rf := rfour_nil
  have z32 := zv32
  go_enter Tryd.func20, Tryd.ntmps20
  go_upto_region 1 with fail
  have r0 : Row (World.alloc (World.alloc w0 (.cells (v8 nm) 22)) (.cells (v8 (zer 32)) 24)) w0.heap.size 22 (v8 nm) := (Row.new _ _ _).alloc _
  have r1 : Row (World.alloc (World.alloc w0 (.cells (v8 nm) 22)) (.cells (v8 (zer 32)) 24)) (w0.heap.size + 1) 24 (v8 (zer 32)) := Row.newAt _ _ _ _ (by simp)
  have b1 : Below w0.heap.size w0 (World.alloc (World.alloc w0 (.cells (v8 nm) 22)) (.cells (v8 (zer 32)) 24)) := ((Below.refl _ _).alloc (Nat.le_refl _) _).alloc (by simp) _
  change Code.wp _ _ _ _ ((World.alloc (World.alloc w0 (.cells (v8 nm) 22)) (.cells (v8 (zer 32)) 24)))
  generalize (World.alloc (World.alloc w0 (.cells (v8 nm) 22)) (.cells (v8 (zer 32)) 24)) = w1 at r0 r1 b1 ⊢
  have hr1 := r1.lt
  obtain ⟨B, hB⟩ : ∃ B, B = w1.heap.size := ⟨_, rfl⟩
  have hsB : ∀ {w : World}, Below B w1 w → B ≤ w.heap.size := fun h => by have := h.size; omega
  refine region_invFA  (by kernel_rfl) (by kernel_rfl) (fun a0 listed a w => ∃ s16 s17 s18 s19 s20 s21 s22 s23 s24 s25 s26, a = (Act.put (Act.put (Act.put (Act.put (Act.put (Act.put (Act.put (Act.put (Act.put (Act.put (Act.put a0 (some 16) s16) (some 17) s17) (some 18) s18) (some 19) s19) (some 20) s20) (some 21) s21) (some 22) s22) (some 23) s23) (some 24) s24) (some 25) s25) (some 26) s26) ∧ Below B w1 w ∧ (listed.getD 0 false = true → s16 = .slice (some ⟨b, o, none⟩) 4292 cap) ∧ (listed.getD 1 false = true → s17 = .int .i64 4292) ∧ (listed.getD 2 false = true → s18 = .bool false) ∧ (listed.getD 3 false = true → s19 = .bool false) ∧ (listed.getD 4 false = true → s20 = .slice (some ⟨b, o, none⟩) 4292 cap) ∧ (listed.getD 5 false = true → s21 = .slice (some ⟨b, o, none⟩) 4 cap) ∧ (listed.getD 6 false = true → s22 = .string (strOfNums (sig.take 4))) ∧ (listed.getD 7 false = true → listed.getD 8 false = false → OwnS w B s23 4 (n4 2)) ∧ (listed.getD 8 false = true → s24 = .string (strOfNums (n4 2))) ∧ (listed.getD 9 false = true → s25 = .bool true) ∧ (listed.getD 10 false = true → s26 = .bool true)) ?_ ?_ ?_
  all_goals simp only [Act.put, List.setIfInBounds_toArray, List.set_cons_succ, List.set_cons_zero]
  · exact ⟨undef, undef, undef, undef, undef, undef, undef, undef, undef, undef, undef, rfl, (Below.refl B _).drew, (fun h => by rw [getD_replicate_false] at h; cases h), (fun h => by rw [getD_replicate_false] at h; cases h), (fun h => by rw [getD_replicate_false] at h; cases h), (fun h => by rw [getD_replicate_false] at h; cases h), (fun h => by rw [getD_replicate_false] at h; cases h), (fun h => by rw [getD_replicate_false] at h; cases h), (fun h => by rw [getD_replicate_false] at h; cases h), (fun h => by rw [getD_replicate_false] at h; cases h), (fun h => by rw [getD_replicate_false] at h; cases h), (fun h => by rw [getD_replicate_false] at h; cases h), (fun h => by rw [getD_replicate_false] at h; cases h)⟩
  · intro listed a w i o hls hJ hin ho hi hall hcl
    obtain ⟨s16, s17, s18, s19, s20, s21, s22, s23, s24, s25, s26, rfl, hbW, c0, c1, c2, c3, c4, c5, c6, c7, c8, c9, c10⟩ := hJ
    replace hin : i < 11 := hin
    rcases (by omega : i = 0 ∨ i = 1 ∨ i = 2 ∨ i = 3 ∨ i = 4 ∨ i = 5 ∨ i = 6 ∨ i = 7 ∨ i = 8 ∨ i = 9 ∨ i = 10) with rfl | rfl | rfl | rfl | rfl | rfl | rfl | rfl | rfl | rfl | rfl
    · obtain rfl := Option.some.inj ho
      have hsz : 0 < listed.size := by rw [hls]; decide
      have hbw := hbW
      refine inv_val (w' := w) (.slice (some ⟨b, o, none⟩) 4292 cap) rfl rfl rfl ?_
      exact ⟨(.slice (some ⟨b, o, none⟩) 4292 cap), s17, s18, s19, s20, s21, s22, s23, s24, s25, s26, rfl, hbw, (fun _ => rfl), (fun h => c1 (bit_ne h (by decide))), (fun h => c2 (bit_ne h (by decide))), (fun h => c3 (bit_ne h (by decide))), (fun h => c4 (bit_ne h (by decide))), (fun h => c5 (bit_ne h (by decide))), (fun h => c6 (bit_ne h (by decide))), (fun h h2 => c7 (bit_ne h (by decide)) (bit_ne h2 (by decide))), (fun h => c8 (bit_ne h (by decide))), (fun h => c9 (bit_ne h (by decide))), (fun h => c10 (bit_ne h (by decide)))⟩
    · obtain rfl := Option.some.inj ho
      have hsz : 1 < listed.size := by rw [hls]; decide
      have hdep0 : listed.getD 0 false = true := hall ⟨0, .data⟩ (by simp) (by rfl)
      obtain rfl := c0 hdep0
      have hbw := hbW
      refine inv_val (w' := w) (.int .i64 4292) rfl rfl (by kernel_rfl) ?_
      exact ⟨(.slice (some ⟨b, o, none⟩) 4292 cap), (.int .i64 4292), s18, s19, s20, s21, s22, s23, s24, s25, s26, rfl, hbw, (fun h => c0 (bit_ne h (by decide))), (fun _ => rfl), (fun h => c2 (bit_ne h (by decide))), (fun h => c3 (bit_ne h (by decide))), (fun h => c4 (bit_ne h (by decide))), (fun h => c5 (bit_ne h (by decide))), (fun h => c6 (bit_ne h (by decide))), (fun h h2 => c7 (bit_ne h (by decide)) (bit_ne h2 (by decide))), (fun h => c8 (bit_ne h (by decide))), (fun h => c9 (bit_ne h (by decide))), (fun h => c10 (bit_ne h (by decide)))⟩
    · obtain rfl := Option.some.inj ho
      have hsz : 2 < listed.size := by rw [hls]; decide
      have hdep1 : listed.getD 1 false = true := hall ⟨1, .data⟩ (by simp) (by rfl)
      obtain rfl := c1 hdep1
      have hbw := hbW
      refine inv_val (w' := w) (.bool false) rfl rfl (by kernel_rfl) ?_
      exact ⟨s16, (.int .i64 4292), (.bool false), s19, s20, s21, s22, s23, s24, s25, s26, rfl, hbw, (fun h => c0 (bit_ne h (by decide))), (fun h => c1 (bit_ne h (by decide))), (fun _ => rfl), (fun h => c3 (bit_ne h (by decide))), (fun h => c4 (bit_ne h (by decide))), (fun h => c5 (bit_ne h (by decide))), (fun h => c6 (bit_ne h (by decide))), (fun h h2 => c7 (bit_ne h (by decide)) (bit_ne h2 (by decide))), (fun h => c8 (bit_ne h (by decide))), (fun h => c9 (bit_ne h (by decide))), (fun h => c10 (bit_ne h (by decide)))⟩
    · obtain rfl := Option.some.inj ho
      have hsz : 3 < listed.size := by rw [hls]; decide
      have hdep2 : listed.getD 2 false = true := hall ⟨2, .data⟩ (by simp) (by rfl)
      obtain rfl := c2 hdep2
      have hbw := hbW
      refine inv_val (w' := w) (.bool false) rfl rfl rfl ?_
      exact ⟨s16, s17, (.bool false), (.bool false), s20, s21, s22, s23, s24, s25, s26, rfl, hbw, (fun h => c0 (bit_ne h (by decide))), (fun h => c1 (bit_ne h (by decide))), (fun h => c2 (bit_ne h (by decide))), (fun _ => rfl), (fun h => c4 (bit_ne h (by decide))), (fun h => c5 (bit_ne h (by decide))), (fun h => c6 (bit_ne h (by decide))), (fun h h2 => c7 (bit_ne h (by decide)) (bit_ne h2 (by decide))), (fun h => c8 (bit_ne h (by decide))), (fun h => c9 (bit_ne h (by decide))), (fun h => c10 (bit_ne h (by decide)))⟩
    · obtain rfl := Option.some.inj ho
      have hsz : 4 < listed.size := by rw [hls]; decide
      have hdep3 : listed.getD 3 false = true := hall ⟨3, .guard⟩ (by simp) (by rfl)
      obtain rfl := c3 hdep3
      have hbw := hbW
      refine inv_valG (w' := w) (.slice (some ⟨b, o, none⟩) 4292 cap) rfl (by kernel_rfl) rfl ?_
      exact ⟨s16, s17, s18, (.bool false), (.slice (some ⟨b, o, none⟩) 4292 cap), s21, s22, s23, s24, s25, s26, rfl, hbw, (fun h => c0 (bit_ne h (by decide))), (fun h => c1 (bit_ne h (by decide))), (fun h => c2 (bit_ne h (by decide))), (fun h => c3 (bit_ne h (by decide))), (fun _ => rfl), (fun h => c5 (bit_ne h (by decide))), (fun h => c6 (bit_ne h (by decide))), (fun h h2 => c7 (bit_ne h (by decide)) (bit_ne h2 (by decide))), (fun h => c8 (bit_ne h (by decide))), (fun h => c9 (bit_ne h (by decide))), (fun h => c10 (bit_ne h (by decide)))⟩
    · obtain rfl := Option.some.inj ho
      have hsz : 5 < listed.size := by rw [hls]; decide
      have hdep4 : listed.getD 4 false = true := hall ⟨4, .data⟩ (by simp) (by rfl)
      obtain rfl := c4 hdep4
      have hdep3 : listed.getD 3 false = true := hall ⟨3, .guard⟩ (by simp) (by rfl)
      obtain rfl := c3 hdep3
      have hbw := hbW
      refine inv_valG (w' := w) (.slice (some ⟨b, o, none⟩) 4 cap) rfl (by kernel_rfl) (exec_front (.tmp 20) rfl b o 4292 cap rfl (by omega)) ?_
      exact ⟨s16, s17, s18, (.bool false), (.slice (some ⟨b, o, none⟩) 4292 cap), (.slice (some ⟨b, o, none⟩) 4 cap), s22, s23, s24, s25, s26, rfl, hbw, (fun h => c0 (bit_ne h (by decide))), (fun h => c1 (bit_ne h (by decide))), (fun h => c2 (bit_ne h (by decide))), (fun h => c3 (bit_ne h (by decide))), (fun h => c4 (bit_ne h (by decide))), (fun _ => rfl), (fun h => c6 (bit_ne h (by decide))), (fun h h2 => c7 (bit_ne h (by decide)) (bit_ne h2 (by decide))), (fun h => c8 (bit_ne h (by decide))), (fun h => c9 (bit_ne h (by decide))), (fun h => c10 (bit_ne h (by decide)))⟩
    · obtain rfl := Option.some.inj ho
      have hsz : 6 < listed.size := by rw [hls]; decide
      have hdep5 : listed.getD 5 false = true := hall ⟨5, .data⟩ (by simp) (by rfl)
      obtain rfl := c5 hdep5
      have hdep3 : listed.getD 3 false = true := hall ⟨3, .guard⟩ (by simp) (by rfl)
      obtain rfl := c3 hdep3
      have hbw := hbW
      refine inv_valG (w' := w) (.string (strOfNums (sig.take 4))) rfl (by kernel_rfl) (exec_convert8 (.tmp 21) rfl _ _ _ (sig.take 4) rfl h4l (by omega) ((hby.below (b1.trans (hbW.mono (by omega)))).take 4)) ?_
      exact ⟨s16, s17, s18, (.bool false), s20, (.slice (some ⟨b, o, none⟩) 4 cap), (.string (strOfNums (sig.take 4))), s23, s24, s25, s26, rfl, hbw, (fun h => c0 (bit_ne h (by decide))), (fun h => c1 (bit_ne h (by decide))), (fun h => c2 (bit_ne h (by decide))), (fun h => c3 (bit_ne h (by decide))), (fun h => c4 (bit_ne h (by decide))), (fun h => c5 (bit_ne h (by decide))), (fun _ => rfl), (fun h h2 => c7 (bit_ne h (by decide)) (bit_ne h2 (by decide))), (fun h => c8 (bit_ne h (by decide))), (fun h => c9 (bit_ne h (by decide))), (fun h => c10 (bit_ne h (by decide)))⟩
    · obtain rfl := Option.some.inj ho
      have hsz : 7 < listed.size := by rw [hls]; decide
      have hdep3 : listed.getD 3 false = true := hall ⟨3, .guard⟩ (by simp) (by rfl)
      obtain rfl := c3 hdep3
      refine inv_callG 43 #[.slice none 0 0, .int .i64 2] _ rfl (by kernel_rfl) (by kernel_rfl) (rf w) ?_
      rintro e w' ⟨sp, cap, rfl, ow, hb⟩
      have hbw : Below B w1 w' := hbW.trans (hb.mono (hsB hbW))
      refine ⟨_, rfl, ?_⟩
      exact ⟨s16, s17, s18, (.bool false), s20, s21, s22, (.slice sp 4 cap), s24, s25, s26, rfl, hbw, (fun h => c0 (bit_ne h (by decide))), (fun h => c1 (bit_ne h (by decide))), (fun h => c2 (bit_ne h (by decide))), (fun h => c3 (bit_ne h (by decide))), (fun h => c4 (bit_ne h (by decide))), (fun h => c5 (bit_ne h (by decide))), (fun h => c6 (bit_ne h (by decide))), (fun _ _ => ⟨sp, cap, rfl, ow.mono (hsB hbW)⟩), (fun h => c8 (bit_ne h (by decide))), (fun h => c9 (bit_ne h (by decide))), (fun h => c10 (bit_ne h (by decide)))⟩
    · obtain rfl := Option.some.inj ho
      have hsz : 8 < listed.size := by rw [hls]; decide
      have hdep7 : listed.getD 7 false = true := hall ⟨7, .data⟩ (by simp) (by rfl)
      obtain ⟨sp7, cap7, rfl, o7⟩ := c7 hdep7 hi
      have hdep3 : listed.getD 3 false = true := hall ⟨3, .guard⟩ (by simp) (by rfl)
      obtain rfl := c3 hdep3
      have hbw := hbW
      refine inv_valG (w' := w) (.string (strOfNums (n4 2))) rfl (by kernel_rfl) (exec_convert8 (.tmp 23) rfl _ _ _ (n4 2) rfl rfl (by omega) o7.bytes) ?_
      exact ⟨s16, s17, s18, (.bool false), s20, s21, s22, (.slice sp7 4 cap7), (.string (strOfNums (n4 2))), s25, s26, rfl, hbw, (fun h => c0 (bit_ne h (by decide))), (fun h => c1 (bit_ne h (by decide))), (fun h => c2 (bit_ne h (by decide))), (fun h => c3 (bit_ne h (by decide))), (fun h => c4 (bit_ne h (by decide))), (fun h => c5 (bit_ne h (by decide))), (fun h => c6 (bit_ne h (by decide))), (fun _ h2 => absurd (bit_on hsz) (by rw [h2]; decide)), (fun _ => rfl), (fun h => c9 (bit_ne h (by decide))), (fun h => c10 (bit_ne h (by decide)))⟩
    · obtain rfl := Option.some.inj ho
      have hsz : 9 < listed.size := by rw [hls]; decide
      have hdep6 : listed.getD 6 false = true := hall ⟨6, .data⟩ (by simp) (by rfl)
      obtain rfl := c6 hdep6
      have hdep8 : listed.getD 8 false = true := hall ⟨8, .data⟩ (by simp) (by rfl)
      obtain rfl := c8 hdep8
      have hdep3 : listed.getD 3 false = true := hall ⟨3, .guard⟩ (by simp) (by rfl)
      obtain rfl := c3 hdep3
      have hbw := hbW
      refine inv_valG (w' := w) (.bool true) rfl (by kernel_rfl) (exec_neq_str 9 9 (.tmp 22) (.tmp 24) rfl _ _ true rfl rfl hne) ?_
      exact ⟨s16, s17, s18, (.bool false), s20, s21, (.string (strOfNums (sig.take 4))), s23, (.string (strOfNums (n4 2))), (.bool true), s26, rfl, hbw, (fun h => c0 (bit_ne h (by decide))), (fun h => c1 (bit_ne h (by decide))), (fun h => c2 (bit_ne h (by decide))), (fun h => c3 (bit_ne h (by decide))), (fun h => c4 (bit_ne h (by decide))), (fun h => c5 (bit_ne h (by decide))), (fun h => c6 (bit_ne h (by decide))), (fun h h2 => c7 (bit_ne h (by decide)) (bit_ne h2 (by decide))), (fun h => c8 (bit_ne h (by decide))), (fun _ => rfl), (fun h => c10 (bit_ne h (by decide)))⟩
    · obtain rfl := Option.some.inj ho
      have hsz : 10 < listed.size := by rw [hls]; decide
      have hdep3 : listed.getD 3 false = true := hall ⟨3, .data⟩ (by simp) (by rfl)
      obtain rfl := c3 hdep3
      have hdep9 : listed.getD 9 false = true := hall ⟨9, .data⟩ (by simp) (by rfl)
      obtain rfl := c9 hdep9
      have hbw := hbW
      refine inv_val (w' := w) (.bool true) rfl rfl (by kernel_rfl) ?_
      exact ⟨s16, s17, s18, (.bool false), s20, s21, s22, s23, s24, (.bool true), (.bool true), rfl, hbw, (fun h => c0 (bit_ne h (by decide))), (fun h => c1 (bit_ne h (by decide))), (fun h => c2 (bit_ne h (by decide))), (fun h => c3 (bit_ne h (by decide))), (fun h => c4 (bit_ne h (by decide))), (fun h => c5 (bit_ne h (by decide))), (fun h => c6 (bit_ne h (by decide))), (fun h h2 => c7 (bit_ne h (by decide)) (bit_ne h2 (by decide))), (fun h => c8 (bit_ne h (by decide))), (fun h => c9 (bit_ne h (by decide))), (fun _ => rfl)⟩
  · intro listed a w hall hJ
    obtain ⟨s16, s17, s18, s19, s20, s21, s22, s23, s24, s25, s26, rfl, hbW, c0, c1, c2, c3, c4, c5, c6, c7, c8, c9, c10⟩ := hJ
    obtain rfl := c0 (hall 0 (by decide))
    obtain rfl := c1 (hall 1 (by decide))
    obtain rfl := c2 (hall 2 (by decide))
    obtain rfl := c3 (hall 3 (by decide))
    obtain rfl := c4 (hall 4 (by decide))
    obtain rfl := c5 (hall 5 (by decide))
    obtain rfl := c6 (hall 6 (by decide))
    obtain rfl := c8 (hall 8 (by decide))
    obtain rfl := c9 (hall 9 (by decide))
    obtain rfl := c10 (hall 10 (by decide))
    have v1 := r1.below hbW (by omega)
    have vb := b1.trans (hbW.mono (by omega))
    go_wp2_with (refine store_row0 24 (.tmp 8) (.tmp 27) (by rfl) (by rfl) (by rfl) (w0.heap.size + 1) (v8 (zer 32)) (by rfl) (by rfl) 24 _ v1 (id_info (zer_len 32)) rfl (v8_one _) ?_)
    exact bodyPost_ret (results_row_tmp Tryd.results20 _ _ (w0.heap.size + 1) 24 (v8 (zer 32)) _ rfl (v1.setRow _) Tryd.underlying24 rfl (id_info (zer_len 32))) rfl ⟨rfl, below_setRow vb (by omega) _⟩

set_option maxRecDepth 20000 in
set_option maxHeartbeats 1000000 in
theorem rBack_len (nm : List Int) (q : Int) (mp sp : Option Addr) (ml mc len cap : Nat) (w0 : World) (h : len ≠ 4292) :
    Calls Tryd.prog 20 #[.agg (v8 nm), .int .i64 q, .slice mp ml mc, .slice sp len cap] w0 fun e w' => e = .returned (.tuple #[.agg (v8 (zer 32)), .int .i64 12]) ∧ Below w0.heap.size w0 w' := by
  have z32 := zv32
  have hneb : ((len : Int) != 4292) = true := by simp; omega
  go_enter Tryd.func20, Tryd.ntmps20
  go_upto_region 1 with fail
  have r1 : Row (World.alloc (World.alloc w0 (.cells (v8 nm) 22)) (.cells (v8 (zer 32)) 24)) (w0.heap.size + 1) 24 (v8 (zer 32)) := Row.newAt _ _ _ _ (by simp)
  have b1 : Below w0.heap.size w0 (World.alloc (World.alloc w0 (.cells (v8 nm) 22)) (.cells (v8 (zer 32)) 24)) := ((Below.refl _ _).alloc (Nat.le_refl _) _).alloc (by simp) _
  change Code.wp _ _ _ _ ((World.alloc (World.alloc w0 (.cells (v8 nm) 22)) (.cells (v8 (zer 32)) 24)))
  generalize (World.alloc (World.alloc w0 (.cells (v8 nm) 22)) (.cells (v8 (zer 32)) 24)) = w1 at r1 b1 ⊢
  refine region_tail 10 (by kernel_rfl) (by kernel_rfl) (by kernel_rfl) ?_
  apply Exists.intro
  refine ⟨fun ι _ W hb hc => ?_, fun w6 hb6 => ?_⟩
  · simp only [List.take_succ_cons, List.take_zero]
    repeat (go_big_quiet_step (fail))
    exact wpQuiet_nil rfl
  · simp only [List.drop_succ_cons, List.drop_zero]
    have v1 := r1.below hb6 r1.lt
    have vb := b1.trans (hb6.mono b1.size)
    go_wp2_with (refine store_row0 24 (.tmp 8) (.tmp 27) (by rfl) (by rfl) (by rfl) (w0.heap.size + 1) (v8 (zer 32)) (by rfl) (by rfl) 24 _ v1 (id_info (zer_len 32)) rfl (v8_one _) ?_)
    exact bodyPost_ret (results_row_tmp Tryd.results20 _ _ (w0.heap.size + 1) 24 (v8 (zer 32)) _ rfl (v1.setRow _) Tryd.underlying24 rfl (id_info (zer_len 32))) rfl ⟨rfl, below_setRow vb (by omega) _⟩
end

section
open Go Go.RowKit

set_option maxRecDepth 20000 in
set_option maxHeartbeats 1000000 in
theorem rBack_ok (S : List Int → List Int) (hS : Hash S) (msg : List Int) (nm sig : List Int) (q : Int) (mp : Option Addr) (b o ml mc cap : Nat) (w0 : World) (hn : nm.length = 16) (hml : msg.length = ml) (hmn : mp = none → mc = 0 ∧ ml = 0) (hmm : ml ≤ 1000000) (hmb : Bytes w0 mp msg) (hsl : sig.length = 4292) (hcp : 4292 ≤ cap) (hby : Bytes w0 (some ⟨b, o, none⟩) sig) (hty : sig.take 4 = n4 2) :
    Calls Tryd.prog 20 #[.agg (v8 nm), .int .i64 q, .slice mp ml mc, .slice (some ⟨b, o, none⟩) 4292 cap] w0 fun e w' => e = .returned (.tuple #[.agg (v8 (backL S (nm ++ n4 q) msg sig)), .int .i64 0]) ∧ Below w0.heap.size w0 w' := by
  have hH : (nm ++ n4 q).length = 20 := by rw [List.length_append, hn, n4_len]
  have hL22 : (nm ++ n4 q ++ [128, 128]).length = 22 := by rw [List.length_append, hH]; rfl
  have hdg : ∀ cc wx, Bytes wx (some ⟨b, o + 4, none⟩) (cutL sig 4) → Bytes wx mp msg → Calls Tryd.prog 42 #[.agg (v8 nm), .int .i64 q, .slice (some ⟨b, o + 4, none⟩) 32 cc, .slice mp ml mc] wx fun e w' => e = .returned (.agg (v64 (digsL (textL S (nm ++ n4 q) (cutL sig 4) msg)))) ∧ Below wx.heap.size wx w' := fun cc wx h2 h3 =>
    rdigits_any S hS nm (cutL sig 4) msg q (some ⟨b, o + 4, none⟩) mp 32 cc ml mc wx hn (by unfold cutL; simp; omega) (fun h => by cases h) h2 (by omega) hml hmn h3 hmm
  have hbk : backL S (nm ++ n4 q) msg sig = topL S (nm ++ n4 q) (wL S (nm ++ n4 q) (textL S (nm ++ n4 q) (cutL sig 4) msg) sig) := rfl
  rw [hbk]
  clear hbk
  generalize textL S (nm ++ n4 q) (cutL sig 4) msg = Q at *
  have hcutl : ∀ k, k < 133 → (cutL sig (36 + 32 * k)).length = 32 := fun k hk => by unfold cutL; simp; omega
  have hcutat : ∀ k, k < 133 → ∀ j, j < 32 → gi (cutL sig (36 + 32 * k)) j = gi sig (36 + 32 * k + j) := fun k hk j hj => by
    unfold cutL gi
    simp only [List.getD_eq_getElem?_getD, List.getElem?_take_of_lt hj, List.getElem?_drop]
  obtain ⟨Y, hY⟩ : ∃ Y : Nat → List Int, Y = fun i => if i < 133 then wL S (nm ++ n4 q) Q sig i else zer 32 := ⟨_, rfl⟩
  have hYw : ∀ k, k < 133 → wL S (nm ++ n4 q) Q sig k = Y k := fun k hk => by rw [hY]; simp [hk]
  have hYl : ∀ i, (Y i).length = 32 := fun i => by
    rw [hY]
    by_cases hi : i < 133
    · simp only [hi, if_true]; unfold wL; exact walkL_len (fun l => hS.len l) _ _ _ _ (hcutl i hi) _
    · simp only [hi, if_false]; exact zer_len 32
  have htop : topL S (nm ++ n4 q) (wL S (nm ++ n4 q) Q sig) = S (nm ++ n4 q ++ [128, 128] ++ catN Y 133) := by unfold topL; rw [catN_congr 133 hYw]
  have hw : ∀ k : Nat, k < 133 → ∀ wx, Calls Tryd.prog 34 #[.agg (v8 nm), .int .i64 q, .int .i64 (k : Int), .int .i64 (digN (fullL Q) k), .int .i64 3, .agg (v8 (cutL sig (36 + 32 * k)))] wx fun e w' => e = .returned (.agg (v8 (Y k))) ∧ Below wx.heap.size wx w' := fun k hk wx => by
    have hd := digN_nat (fullL Q) k
    have := rwalk_any S hS nm (cutL sig (36 + 32 * k)) q k (digN (fullL Q) k).toNat 3 wx hn (hcutl k hk) (by omega)
    rw [hd.1] at this
    rw [← hYw k hk]
    exact this
  clear hYw hY
  have hSl : (topL S (nm ++ n4 q) (wL S (nm ++ n4 q) Q sig)).length = 32 := hS.len _
  have hDl := digsL_len Q
  have hDat : ∀ k, k < 133 → gi (digsL Q) k = digN (fullL Q) k := digsL_at Q
  have hcl' : Hid (∀ k, (catN Y k).length = 32 * k) := catN_len hYl
  have hC0 : catN Y 0 = [] := rfl
  have hCs' : Hid (∀ k, catN Y (k + 1) = catN Y k ++ Y k) := fun _ => rfl
  have htop' : Hid (topL S (nm ++ n4 q) (wL S (nm ++ n4 q) Q sig) = S (nm ++ n4 q ++ [128, 128] ++ catN Y 133)) := htop
  clear htop
  generalize topL S (nm ++ n4 q) (wL S (nm ++ n4 q) Q sig) = PK at *
  generalize catN Y = C at *
  generalize digsL Q = DG at *
  generalize digN (fullL Q) = D at *
  obtain ⟨CU, hCU⟩ : ∃ CU : Nat → List Int, CU = fun k => cutL sig (36 + 32 * k) := ⟨_, rfl⟩
  have hcutl : ∀ k, k < 133 → (CU k).length = 32 := fun k hk => by rw [hCU]; exact hcutl k hk
  have hcutat : ∀ k, k < 133 → ∀ j, j < 32 → gi (CU k) j = gi sig (36 + 32 * k + j) := fun k hk => by rw [hCU]; exact hcutat k hk
  have hw : ∀ k : Nat, k < 133 → ∀ wx, Calls Tryd.prog 34 #[.agg (v8 nm), .int .i64 q, .int .i64 (k : Int), .int .i64 (D k), .int .i64 3, .agg (v8 (CU k))] wx fun e w' => e = .returned (.agg (v8 (Y k))) ∧ Below wx.heap.size wx w' := fun k hk => by rw [hCU]; exact hw k hk
  clear hCU
  have h4l : (sig.take 4).length = 4 := by rw [List.length_take, hsl]; rfl
  have rf := rfour_nil
  have z32 := zv32
  go_enter Tryd.func20, Tryd.ntmps20
  go_upto_region 1 with fail
  have r0 : Row (World.alloc (World.alloc w0 (.cells (v8 nm) 22)) (.cells (v8 (zer 32)) 24)) w0.heap.size 22 (v8 nm) := (Row.new _ _ _).alloc _
  have r1 : Row (World.alloc (World.alloc w0 (.cells (v8 nm) 22)) (.cells (v8 (zer 32)) 24)) (w0.heap.size + 1) 24 (v8 (zer 32)) := Row.newAt _ _ _ _ (by simp)
  have b1 : Below w0.heap.size w0 (World.alloc (World.alloc w0 (.cells (v8 nm) 22)) (.cells (v8 (zer 32)) 24)) := ((Below.refl _ _).alloc (Nat.le_refl _) _).alloc (by simp) _
  change Code.wp _ _ _ _ ((World.alloc (World.alloc w0 (.cells (v8 nm) 22)) (.cells (v8 (zer 32)) 24)))
  generalize (World.alloc (World.alloc w0 (.cells (v8 nm) 22)) (.cells (v8 (zer 32)) 24)) = w1 at r0 r1 b1 ⊢
  have hr1 := r1.lt
  obtain ⟨B, hB⟩ : ∃ B, B = w1.heap.size := ⟨_, rfl⟩
  have hsB : ∀ {w : World}, Below B w1 w → B ≤ w.heap.size := fun h => by have := h.size; omega
  refine region_invFA  (by kernel_rfl) (by kernel_rfl) (fun a0 listed a w => ∃ s16 s17 s18 s19 s20 s21 s22 s23 s24 s25 s26, a = (Act.put (Act.put (Act.put (Act.put (Act.put (Act.put (Act.put (Act.put (Act.put (Act.put (Act.put a0 (some 16) s16) (some 17) s17) (some 18) s18) (some 19) s19) (some 20) s20) (some 21) s21) (some 22) s22) (some 23) s23) (some 24) s24) (some 25) s25) (some 26) s26) ∧ Below B w1 w ∧ (listed.getD 0 false = true → s16 = .slice (some ⟨b, o, none⟩) 4292 cap) ∧ (listed.getD 1 false = true → s17 = .int .i64 4292) ∧ (listed.getD 2 false = true → s18 = .bool false) ∧ (listed.getD 3 false = true → s19 = .bool false) ∧ (listed.getD 4 false = true → s20 = .slice (some ⟨b, o, none⟩) 4292 cap) ∧ (listed.getD 5 false = true → s21 = .slice (some ⟨b, o, none⟩) 4 cap) ∧ (listed.getD 6 false = true → s22 = .string (strOfNums (sig.take 4))) ∧ (listed.getD 7 false = true → listed.getD 8 false = false → OwnS w B s23 4 (n4 2)) ∧ (listed.getD 8 false = true → s24 = .string (strOfNums (n4 2))) ∧ (listed.getD 9 false = true → s25 = .bool false) ∧ (listed.getD 10 false = true → s26 = .bool false)) ?_ ?_ ?_
  all_goals simp only [Act.put, List.setIfInBounds_toArray, List.set_cons_succ, List.set_cons_zero]
  · exact ⟨undef, undef, undef, undef, undef, undef, undef, undef, undef, undef, undef, rfl, (Below.refl B _).drew, (fun h => by rw [getD_replicate_false] at h; cases h), (fun h => by rw [getD_replicate_false] at h; cases h), (fun h => by rw [getD_replicate_false] at h; cases h), (fun h => by rw [getD_replicate_false] at h; cases h), (fun h => by rw [getD_replicate_false] at h; cases h), (fun h => by rw [getD_replicate_false] at h; cases h), (fun h => by rw [getD_replicate_false] at h; cases h), (fun h => by rw [getD_replicate_false] at h; cases h), (fun h => by rw [getD_replicate_false] at h; cases h), (fun h => by rw [getD_replicate_false] at h; cases h), (fun h => by rw [getD_replicate_false] at h; cases h)⟩
  · intro listed a w i o hls hJ hin ho hi hall hcl
    obtain ⟨s16, s17, s18, s19, s20, s21, s22, s23, s24, s25, s26, rfl, hbW, c0, c1, c2, c3, c4, c5, c6, c7, c8, c9, c10⟩ := hJ
    replace hin : i < 11 := hin
    rcases (by omega : i = 0 ∨ i = 1 ∨ i = 2 ∨ i = 3 ∨ i = 4 ∨ i = 5 ∨ i = 6 ∨ i = 7 ∨ i = 8 ∨ i = 9 ∨ i = 10) with rfl | rfl | rfl | rfl | rfl | rfl | rfl | rfl | rfl | rfl | rfl
    · obtain rfl := Option.some.inj ho
      have hsz : 0 < listed.size := by rw [hls]; decide
      have hbw := hbW
      refine inv_val (w' := w) (.slice (some ⟨b, o, none⟩) 4292 cap) rfl rfl rfl ?_
      exact ⟨(.slice (some ⟨b, o, none⟩) 4292 cap), s17, s18, s19, s20, s21, s22, s23, s24, s25, s26, rfl, hbw, (fun _ => rfl), (fun h => c1 (bit_ne h (by decide))), (fun h => c2 (bit_ne h (by decide))), (fun h => c3 (bit_ne h (by decide))), (fun h => c4 (bit_ne h (by decide))), (fun h => c5 (bit_ne h (by decide))), (fun h => c6 (bit_ne h (by decide))), (fun h h2 => c7 (bit_ne h (by decide)) (bit_ne h2 (by decide))), (fun h => c8 (bit_ne h (by decide))), (fun h => c9 (bit_ne h (by decide))), (fun h => c10 (bit_ne h (by decide)))⟩
    · obtain rfl := Option.some.inj ho
      have hsz : 1 < listed.size := by rw [hls]; decide
      have hdep0 : listed.getD 0 false = true := hall ⟨0, .data⟩ (by simp) (by rfl)
      obtain rfl := c0 hdep0
      have hbw := hbW
      refine inv_val (w' := w) (.int .i64 4292) rfl rfl (by kernel_rfl) ?_
      exact ⟨(.slice (some ⟨b, o, none⟩) 4292 cap), (.int .i64 4292), s18, s19, s20, s21, s22, s23, s24, s25, s26, rfl, hbw, (fun h => c0 (bit_ne h (by decide))), (fun _ => rfl), (fun h => c2 (bit_ne h (by decide))), (fun h => c3 (bit_ne h (by decide))), (fun h => c4 (bit_ne h (by decide))), (fun h => c5 (bit_ne h (by decide))), (fun h => c6 (bit_ne h (by decide))), (fun h h2 => c7 (bit_ne h (by decide)) (bit_ne h2 (by decide))), (fun h => c8 (bit_ne h (by decide))), (fun h => c9 (bit_ne h (by decide))), (fun h => c10 (bit_ne h (by decide)))⟩
    · obtain rfl := Option.some.inj ho
      have hsz : 2 < listed.size := by rw [hls]; decide
      have hdep1 : listed.getD 1 false = true := hall ⟨1, .data⟩ (by simp) (by rfl)
      obtain rfl := c1 hdep1
      have hbw := hbW
      refine inv_val (w' := w) (.bool false) rfl rfl (by kernel_rfl) ?_
      exact ⟨s16, (.int .i64 4292), (.bool false), s19, s20, s21, s22, s23, s24, s25, s26, rfl, hbw, (fun h => c0 (bit_ne h (by decide))), (fun h => c1 (bit_ne h (by decide))), (fun _ => rfl), (fun h => c3 (bit_ne h (by decide))), (fun h => c4 (bit_ne h (by decide))), (fun h => c5 (bit_ne h (by decide))), (fun h => c6 (bit_ne h (by decide))), (fun h h2 => c7 (bit_ne h (by decide)) (bit_ne h2 (by decide))), (fun h => c8 (bit_ne h (by decide))), (fun h => c9 (bit_ne h (by decide))), (fun h => c10 (bit_ne h (by decide)))⟩
    · obtain rfl := Option.some.inj ho
      have hsz : 3 < listed.size := by rw [hls]; decide
      have hdep2 : listed.getD 2 false = true := hall ⟨2, .data⟩ (by simp) (by rfl)
      obtain rfl := c2 hdep2
      have hbw := hbW
      refine inv_val (w' := w) (.bool false) rfl rfl rfl ?_
      exact ⟨s16, s17, (.bool false), (.bool false), s20, s21, s22, s23, s24, s25, s26, rfl, hbw, (fun h => c0 (bit_ne h (by decide))), (fun h => c1 (bit_ne h (by decide))), (fun h => c2 (bit_ne h (by decide))), (fun _ => rfl), (fun h => c4 (bit_ne h (by decide))), (fun h => c5 (bit_ne h (by decide))), (fun h => c6 (bit_ne h (by decide))), (fun h h2 => c7 (bit_ne h (by decide)) (bit_ne h2 (by decide))), (fun h => c8 (bit_ne h (by decide))), (fun h => c9 (bit_ne h (by decide))), (fun h => c10 (bit_ne h (by decide)))⟩
    · obtain rfl := Option.some.inj ho
      have hsz : 4 < listed.size := by rw [hls]; decide
      have hdep3 : listed.getD 3 false = true := hall ⟨3, .guard⟩ (by simp) (by rfl)
      obtain rfl := c3 hdep3
      have hbw := hbW
      refine inv_valG (w' := w) (.slice (some ⟨b, o, none⟩) 4292 cap) rfl (by kernel_rfl) rfl ?_
      exact ⟨s16, s17, s18, (.bool false), (.slice (some ⟨b, o, none⟩) 4292 cap), s21, s22, s23, s24, s25, s26, rfl, hbw, (fun h => c0 (bit_ne h (by decide))), (fun h => c1 (bit_ne h (by decide))), (fun h => c2 (bit_ne h (by decide))), (fun h => c3 (bit_ne h (by decide))), (fun _ => rfl), (fun h => c5 (bit_ne h (by decide))), (fun h => c6 (bit_ne h (by decide))), (fun h h2 => c7 (bit_ne h (by decide)) (bit_ne h2 (by decide))), (fun h => c8 (bit_ne h (by decide))), (fun h => c9 (bit_ne h (by decide))), (fun h => c10 (bit_ne h (by decide)))⟩
    · obtain rfl := Option.some.inj ho
      have hsz : 5 < listed.size := by rw [hls]; decide
      have hdep4 : listed.getD 4 false = true := hall ⟨4, .data⟩ (by simp) (by rfl)
      obtain rfl := c4 hdep4
      have hdep3 : listed.getD 3 false = true := hall ⟨3, .guard⟩ (by simp) (by rfl)
      obtain rfl := c3 hdep3
      have hbw := hbW
      refine inv_valG (w' := w) (.slice (some ⟨b, o, none⟩) 4 cap) rfl (by kernel_rfl) (exec_front (.tmp 20) rfl b o 4292 cap rfl (by omega)) ?_
      exact ⟨s16, s17, s18, (.bool false), (.slice (some ⟨b, o, none⟩) 4292 cap), (.slice (some ⟨b, o, none⟩) 4 cap), s22, s23, s24, s25, s26, rfl, hbw, (fun h => c0 (bit_ne h (by decide))), (fun h => c1 (bit_ne h (by decide))), (fun h => c2 (bit_ne h (by decide))), (fun h => c3 (bit_ne h (by decide))), (fun h => c4 (bit_ne h (by decide))), (fun _ => rfl), (fun h => c6 (bit_ne h (by decide))), (fun h h2 => c7 (bit_ne h (by decide)) (bit_ne h2 (by decide))), (fun h => c8 (bit_ne h (by decide))), (fun h => c9 (bit_ne h (by decide))), (fun h => c10 (bit_ne h (by decide)))⟩
    · obtain rfl := Option.some.inj ho
      have hsz : 6 < listed.size := by rw [hls]; decide
      have hdep5 : listed.getD 5 false = true := hall ⟨5, .data⟩ (by simp) (by rfl)
      obtain rfl := c5 hdep5
      have hdep3 : listed.getD 3 false = true := hall ⟨3, .guard⟩ (by simp) (by rfl)
      obtain rfl := c3 hdep3
      have hbw := hbW
      refine inv_valG (w' := w) (.string (strOfNums (sig.take 4))) rfl (by kernel_rfl) (exec_convert8 (.tmp 21) rfl _ _ _ (sig.take 4) rfl h4l (by omega) ((hby.below (b1.trans (hbW.mono (by omega)))).take 4)) ?_
      exact ⟨s16, s17, s18, (.bool false), s20, (.slice (some ⟨b, o, none⟩) 4 cap), (.string (strOfNums (sig.take 4))), s23, s24, s25, s26, rfl, hbw, (fun h => c0 (bit_ne h (by decide))), (fun h => c1 (bit_ne h (by decide))), (fun h => c2 (bit_ne h (by decide))), (fun h => c3 (bit_ne h (by decide))), (fun h => c4 (bit_ne h (by decide))), (fun h => c5 (bit_ne h (by decide))), (fun _ => rfl), (fun h h2 => c7 (bit_ne h (by decide)) (bit_ne h2 (by decide))), (fun h => c8 (bit_ne h (by decide))), (fun h => c9 (bit_ne h (by decide))), (fun h => c10 (bit_ne h (by decide)))⟩
    · obtain rfl := Option.some.inj ho
      have hsz : 7 < listed.size := by rw [hls]; decide
      have hdep3 : listed.getD 3 false = true := hall ⟨3, .guard⟩ (by simp) (by rfl)
      obtain rfl := c3 hdep3
      refine inv_callG 43 #[.slice none 0 0, .int .i64 2] _ rfl (by kernel_rfl) (by kernel_rfl) (rf w) ?_
      rintro e w' ⟨sp, cap, rfl, ow, hb⟩
      have hbw : Below B w1 w' := hbW.trans (hb.mono (hsB hbW))
      refine ⟨_, rfl, ?_⟩
      exact ⟨s16, s17, s18, (.bool false), s20, s21, s22, (.slice sp 4 cap), s24, s25, s26, rfl, hbw, (fun h => c0 (bit_ne h (by decide))), (fun h => c1 (bit_ne h (by decide))), (fun h => c2 (bit_ne h (by decide))), (fun h => c3 (bit_ne h (by decide))), (fun h => c4 (bit_ne h (by decide))), (fun h => c5 (bit_ne h (by decide))), (fun h => c6 (bit_ne h (by decide))), (fun _ _ => ⟨sp, cap, rfl, ow.mono (hsB hbW)⟩), (fun h => c8 (bit_ne h (by decide))), (fun h => c9 (bit_ne h (by decide))), (fun h => c10 (bit_ne h (by decide)))⟩
    · obtain rfl := Option.some.inj ho
      have hsz : 8 < listed.size := by rw [hls]; decide
      have hdep7 : listed.getD 7 false = true := hall ⟨7, .data⟩ (by simp) (by rfl)
      obtain ⟨sp7, cap7, rfl, o7⟩ := c7 hdep7 hi
      have hdep3 : listed.getD 3 false = true := hall ⟨3, .guard⟩ (by simp) (by rfl)
      obtain rfl := c3 hdep3
      have hbw := hbW
      refine inv_valG (w' := w) (.string (strOfNums (n4 2))) rfl (by kernel_rfl) (exec_convert8 (.tmp 23) rfl _ _ _ (n4 2) rfl rfl (by omega) o7.bytes) ?_
      exact ⟨s16, s17, s18, (.bool false), s20, s21, s22, (.slice sp7 4 cap7), (.string (strOfNums (n4 2))), s25, s26, rfl, hbw, (fun h => c0 (bit_ne h (by decide))), (fun h => c1 (bit_ne h (by decide))), (fun h => c2 (bit_ne h (by decide))), (fun h => c3 (bit_ne h (by decide))), (fun h => c4 (bit_ne h (by decide))), (fun h => c5 (bit_ne h (by decide))), (fun h => c6 (bit_ne h (by decide))), (fun _ h2 => absurd (bit_on hsz) (by rw [h2]; decide)), (fun _ => rfl), (fun h => c9 (bit_ne h (by decide))), (fun h => c10 (bit_ne h (by decide)))⟩
    · obtain rfl := Option.some.inj ho
      have hsz : 9 < listed.size := by rw [hls]; decide
      have hdep6 : listed.getD 6 false = true := hall ⟨6, .data⟩ (by simp) (by rfl)
      obtain rfl := c6 hdep6
      have hdep8 : listed.getD 8 false = true := hall ⟨8, .data⟩ (by simp) (by rfl)
      obtain rfl := c8 hdep8
      have hdep3 : listed.getD 3 false = true := hall ⟨3, .guard⟩ (by simp) (by rfl)
      obtain rfl := c3 hdep3
      have hbw := hbW
      refine inv_valG (w' := w) (.bool false) rfl (by kernel_rfl) (exec_neq_str 9 9 (.tmp 22) (.tmp 24) rfl _ _ false rfl rfl (by rw [hty]; simp)) ?_
      exact ⟨s16, s17, s18, (.bool false), s20, s21, (.string (strOfNums (sig.take 4))), s23, (.string (strOfNums (n4 2))), (.bool false), s26, rfl, hbw, (fun h => c0 (bit_ne h (by decide))), (fun h => c1 (bit_ne h (by decide))), (fun h => c2 (bit_ne h (by decide))), (fun h => c3 (bit_ne h (by decide))), (fun h => c4 (bit_ne h (by decide))), (fun h => c5 (bit_ne h (by decide))), (fun h => c6 (bit_ne h (by decide))), (fun h h2 => c7 (bit_ne h (by decide)) (bit_ne h2 (by decide))), (fun h => c8 (bit_ne h (by decide))), (fun _ => rfl), (fun h => c10 (bit_ne h (by decide)))⟩
    · obtain rfl := Option.some.inj ho
      have hsz : 10 < listed.size := by rw [hls]; decide
      have hdep3 : listed.getD 3 false = true := hall ⟨3, .data⟩ (by simp) (by rfl)
      obtain rfl := c3 hdep3
      have hdep9 : listed.getD 9 false = true := hall ⟨9, .data⟩ (by simp) (by rfl)
      obtain rfl := c9 hdep9
      have hbw := hbW
      refine inv_val (w' := w) (.bool false) rfl rfl (by kernel_rfl) ?_
      exact ⟨s16, s17, s18, (.bool false), s20, s21, s22, s23, s24, (.bool false), (.bool false), rfl, hbw, (fun h => c0 (bit_ne h (by decide))), (fun h => c1 (bit_ne h (by decide))), (fun h => c2 (bit_ne h (by decide))), (fun h => c3 (bit_ne h (by decide))), (fun h => c4 (bit_ne h (by decide))), (fun h => c5 (bit_ne h (by decide))), (fun h => c6 (bit_ne h (by decide))), (fun h h2 => c7 (bit_ne h (by decide)) (bit_ne h2 (by decide))), (fun h => c8 (bit_ne h (by decide))), (fun h => c9 (bit_ne h (by decide))), (fun _ => rfl)⟩
  · intro listed a w hall hJ
    obtain ⟨s16, s17, s18, s19, s20, s21, s22, s23, s24, s25, s26, rfl, hbW, c0, c1, c2, c3, c4, c5, c6, c7, c8, c9, c10⟩ := hJ
    obtain rfl := c0 (hall 0 (by decide))
    obtain rfl := c1 (hall 1 (by decide))
    obtain rfl := c2 (hall 2 (by decide))
    obtain rfl := c3 (hall 3 (by decide))
    obtain rfl := c4 (hall 4 (by decide))
    obtain rfl := c5 (hall 5 (by decide))
    obtain rfl := c6 (hall 6 (by decide))
    obtain rfl := c8 (hall 8 (by decide))
    obtain rfl := c9 (hall 9 (by decide))
    obtain rfl := c10 (hall 10 (by decide))
    have p0 := r0.below hbW (by omega)
    have p1 := r1.below hbW (by omega)
    have pb := b1.trans (hbW.mono (by omega))
    clear r0 r1 b1 hbW c0 c1 c2 c3 c4 c5 c6 c7 c8 c9 c10 hall hsB hB hr1 rf hty
    generalize w = w2 at p0 p1 pb ⊢
    have hp1 := p1.lt
    have k1 : (36 : Int) ≤ (cap : Int) := by omega
    have k2 : ¬ cap = 4 := by omega
    go_upto_region 3 with fail
    refine region_alloc 6 69 (v64 (zer 133)) 10 (by kernel_rfl) (by kernel_rfl) (by rfl) (by kernel_rfl) ?hal ?hh
    case hal =>
      intro a w o ho
      cases ho
      kernel_rfl
    case hh =>
      apply Exists.intro
      refine ⟨fun ι _ W hb hc => ?_, fun gA w3 hgA hbel3 hrow => ?_⟩
      · have t0 : ∀ i, Row (W i) w0.heap.size 22 (v8 nm) := fun i => p0.below (hb i) p0.lt
        have tB : ∀ i, Below w0.heap.size w0 (W i) := fun i => pb.trans ((hb i).mono pb.size)
        simp only [List.take_succ_cons, List.take_zero]
        refine q_load_row 22 (.tmp 4) (by rfl) (by rfl) (w0.heap.size) (by rfl) 22 _ _ t0 Tryd.underlying22 rfl (name_info hn) ?_
        simp only [Act.put, List.setIfInBounds_toArray, List.set_cons_succ, List.set_cons_zero]
        go_big_quiet_step (fail)
        go_big_quiet_step (fail)
        go_big_quiet_step (fail)
        go_big_quiet_step (fail)
        go_big_quiet_step ((go_at_call 42; exact (hdg (cap - 4) _ (Bytes.drop (hby.below (tB _)) 4 |>.take 32) (hmb.below (tB _))).mono (fun e w' ⟨he, hw⟩ => ⟨he, hc _ _ hw⟩)))
        exact wpQuiet_nil rfl
      · simp only [List.drop_succ_cons, List.drop_zero, Act.put, List.setIfInBounds_toArray, List.set_cons_succ, List.set_cons_zero]
        have hi69 : (Tryd.prog.info? 69).map (·.size) = some (v64 DG).size := by rw [v64_size, hDl]; kernel_rfl
        refine store_row0 69 (.tmp 10) (.tmp 33) (by rfl) (by rfl) (by rfl) gA (v64 DG) (by rfl) (by rfl) 69 _ hrow hi69 (by rw [v64_size, v64_size, hDl, zer_len]) (v64_one _) ?_
        have hs3 := hbel3.size
        have x0 := (p0.below hbel3 p0.lt).setRowOther (g := gA) (by omega) (v64 DG)
        have x1 := (p1.below hbel3 p1.lt).setRowOther (g := gA) (by omega) (v64 DG)
        have x3 := hrow.setRow (v64 DG)
        have xb := below_setRow (g := gA) (pb.trans (hbel3.mono pb.size)) (by have := pb.size; omega) (v64 DG)
        have hgA' : w0.heap.size + 1 < gA := by omega
        generalize w3.setRow gA (v64 DG) = w6 at x0 x1 x3 xb ⊢
        clear p0 p1 pb hbel3 hrow hp1 hs3 hgA hdg k1 k2
        have hx3 := x3.lt
        obtain ⟨B4, hB4⟩ : ∃ B4, B4 = w6.heap.size := ⟨_, rfl⟩
        have hgB : gA < B4 := by omega
        go_wp2_with (first | (refine wpList_load_row (by rfl) 22 (.tmp 4) (by rfl) w0.heap.size (by rfl) 22 (v8 nm) (0, 0) _ x0 Tryd.underlying22 rfl (name_info hn) ?_) | (go_at_call 33; (with_reducible refine Calls.mono (rhead_any nm q _ hn) ?_); rintro e w7 ⟨sp7, cap7, rfl, o7, b7⟩; rw [← hB4] at o7 b7; have hs7 := b7.size; rw [← hB4] at hs7) | (at_builtin; (refine append8g (.tmp 36) (.tmp 37) 28 5 (by rfl) (by rfl) B4 Tryd.underlying28 info5 (.slice sp7 20 cap7) (nm ++ n4 q) (by rfl) ?ho (some ⟨w7.heap.size, 0, none⟩) 2 2 [128, 128] (by rfl) rfl ?hnil ?hby ?hlen ?hB ?_; (case ho => exact (o7.alloc _)); (case hnil => exact (fun h => by cases h)); (case hby => exact (bytes_lit w7 [128, 128])); (case hlen => first | omega | (simp; omega) | simp); (case hB => first | omega | (simp; omega) | simp); rw [hL22]; intro sp8 cap8 w8 o8 b8 _g8; have hs8 := b8.size; have c8 : Below B4 w6 w8 := (b7.alloc (by omega) _).trans b8; have hsB8 : B4 ≤ w8.heap.size := (by have := c8.size; omega))))
        have q0 := x0.below c8 (by omega)
        have q1 := x1.below c8 (by omega)
        have q3 := x3.below c8 (by omega)
        have qb := xb.trans (c8.mono (by have := xb.size; omega))
        clear x0 x1 x3 xb o7 b7 b8 _g8 hs7 hs8 c8 hx3 hB4
        generalize nm ++ n4 q ++ [128, 128] = X0 at *
        go_loopw [11, 12] (fun bv v wr => ∃ (k : Nat) (spk : Option Addr) (capk : Nat), k ≤ 133 ∧ bv = .slice spk (22 + 32 * k) capk ∧ v = .int .i64 (k : Int) ∧ Own8 wr B4 5 (.slice spk (22 + 32 * k) capk) (X0 ++ C k) ∧ Row wr w0.heap.size 22 (v8 nm) ∧ Row wr (w0.heap.size + 1) 24 (v8 (zer 32)) ∧ Row wr gA 69 (v64 DG) ∧ Below w0.heap.size w0 wr ∧ B4 ≤ wr.heap.size) (fun _ v _ => 133 - (intOf v).toNat)
        case atStart => exact ⟨0, sp8, cap8, by omega, rfl, rfl, by simpa [hC0] using o8, q0, q1, q3, qb, hsB8⟩
        case round =>
          clear q0 q1 q3 qb o8 hsB8
          obtain ⟨k, spk, capk, hk, rfl, rfl, ok, z0, z1, z3, zb, hsz⟩ := hrel
          by_cases hlt : k < 133
          · have hCl := hcl'.out k
            have hYk := hYl k
            have hXk : (X0 ++ C k).length = 22 + 32 * k := by rw [List.length_append, hL22, hCl]
            have hXk1 : (X0 ++ C k ++ Y k).length = 22 + 32 * (k + 1) := by rw [List.length_append, hXk, hYk]; omega
            have hnx : Hid (X0 ++ C k ++ Y k = X0 ++ C (k + 1)) := by show _ = _; rw [hCs'.out k, List.append_assoc]
            have hDk := hDat k hlt
            have hwk := hw k hlt
            have hZl := hcutl k hlt
            have hZat := hcutat k hlt
            generalize CU k = Z at *
            have s0 := z0.alloc (.cells (v8 (zer 32)) 24)
            have s1 := z1.alloc (.cells (v8 (zer 32)) 24)
            have s3 := z3.alloc (.cells (v8 (zer 32)) 24)
            have s4 := Row.new wr 24 (v8 (zer 32))
            have so := ok.alloc (.cells (v8 (zer 32)) 24)
            have sb := zb.alloc zb.size (.cells (v8 (zer 32)) 24)
            have hss : B4 ≤ (wr.alloc (.cells (v8 (zer 32)) 24)).heap.size := by simp; omega
            obtain ⟨gz, hgz⟩ : ∃ gz, gz = wr.heap.size := ⟨_, rfl⟩
            have hgzB : B4 ≤ gz := by omega
            go_upto_region 9 with fail
            rw [← hgz] at s4 ⊢
            generalize wr.alloc (.cells (v8 (zer 32)) 24) = wz at s0 s1 s3 s4 so sb hss ⊢
            clear z0 z1 z3 zb ok hsz hgz
            go_wp2
            go_loopw [14] (fun v wi => ∃ j : Nat, j ≤ 32 ∧ v = .int .i64 (j : Int) ∧ Own8 wi B4 5 (.slice spk (22 + 32 * k) capk) (X0 ++ C k) ∧ Row wi w0.heap.size 22 (v8 nm) ∧ Row wi (w0.heap.size + 1) 24 (v8 (zer 32)) ∧ Row wi gA 69 (v64 DG) ∧ Row wi gz 24 (v8 (Z.take j ++ List.replicate (32 - j) 0)) ∧ Below w0.heap.size w0 wi ∧ B4 ≤ wi.heap.size) (fun v _ => 32 - (intOf v).toNat)
            case atStart => exact ⟨0, by omega, rfl, so, s0, s1, s3, by simpa [zer] using s4, sb, hss⟩
            case round =>
              clear s0 s1 s3 s4 so sb hss
              obtain ⟨j, hj, rfl, io, i0, i1, i3, i4, ib, hsi⟩ := hrel
              by_cases hjl : j < 32
              · have e1 := hZat j hjl
                obtain ⟨b', o', ee, hcc⟩ := (hby.below ib) (by rw [hsl]; omega)
                injection ee with ee
                injection ee with ee1 ee2
                subst ee1; subst ee2
                have hcs := hcc (36 + 32 * k + j) (by rw [hsl]; omega)
                have hAl : (Z.take j ++ List.replicate (32 - j) 0).length = 32 := by rw [List.length_append, List.length_take, hZl]; simp; omega
                have hnx2 : Hid ((Z.take j ++ List.replicate (32 - j) 0).set j (gi Z j) = Z.take (j + 1) ++ List.replicate (32 - (j + 1)) 0) := by
                  have h1 := set_end (Z.take j) (32 - j) (gi Z j) (by omega)
                  have h2 : (Z.take j).length = j := by rw [List.length_take, hZl]; omega
                  rw [h2] at h1
                  have h3 : Z.take (j + 1) = Z.take j ++ [gi Z j] := by rw [List.take_succ_eq_append_getElem (by omega)]; simp [gi, show j < Z.length by omega]
                  show _ = _
                  rw [h1, h3, show 32 - j - 1 = 32 - (j + 1) by omega]
                have c1 := i4.cell8 (j := j) (by rw [hAl]; omega)
                have f1 := i4.frozen (j := j)
                rw [e1] at hnx2
                clear e1 hcc
                go_wp2
                go_roundw
                case rel => exact ⟨j + 1, by omega, by go_num, io.setOther (var_ne i4 io (by decide)) _, i0.setOther (by show w0.heap.size ≠ gz; omega) _, i1.setOther (by show w0.heap.size + 1 ≠ gz; omega) _, i3.setOther (by show gA ≠ gz; omega) _, by rw [← hnx2.out]; exact i4.set8 j _, ib.setCell (by show w0.heap.size ≤ gz; omega) _, by simpa using hsi⟩
                case measure => simp [intOf]; omega
              · obtain rfl : j = 32 := by omega
                have e : Z.take 32 ++ List.replicate (32 - 32) 0 = Z := by rw [List.take_of_length_le (by omega)]; simp
                rw [e] at i4
                clear e hZat hjl hj
                go_upto_region 13 with fail
                refine region_alloc 8 24 (v8 (zer 32)) 15 (by kernel_rfl) (by kernel_rfl) (by rfl) (by kernel_rfl) ?hal2 ?hh2
                case hal2 =>
                  intro a w o ho
                  cases ho
                  kernel_rfl
                case hh2 =>
                  apply Exists.intro
                  refine ⟨fun ι _ W hb hc => ?_, fun b2 w9 hb2 hbel2 hrow => ?_⟩
                  · have t0 : ∀ i, Row (W i) w0.heap.size 22 (v8 nm) := fun i => i0.below (hb i) i0.lt
                    have t1 : ∀ i, Row (W i) gz 24 (v8 Z) := fun i => i4.below (hb i) i4.lt
                    have t3 : ∀ i, (W i).cell? ⟨gA, k, none⟩ = some (.int .i64 (D k)) := fun i => by
                      rw [← hDk]; exact (i3.below (hb i) i3.lt).cell64 (by omega)
                    simp only [List.take_succ_cons, List.take_zero]
                    refine q_load_row 22 (.tmp 4) (by rfl) (by rfl) (w0.heap.size) (by rfl) 22 _ _ t0 Tryd.underlying22 rfl (name_info hn) ?_
                    simp only [Act.put, List.setIfInBounds_toArray, List.set_cons_succ, List.set_cons_zero]
                    go_big_quiet_step (fail)
                    go_big_quiet_step (fail)
                    go_big_quiet_step (fail)
                    go_big_quiet_step (fail)
                    go_big_quiet_step (fail)
                    refine q_load_row 24 (.tmp 13) (by rfl) (by rfl) gz (by rfl) 24 _ _ t1 Tryd.underlying24 rfl (id_info hZl) ?_
                    simp only [Act.put, List.setIfInBounds_toArray, List.set_cons_succ, List.set_cons_zero]
                    go_big_quiet_step ((go_at_call 34; exact (hwk _).mono (fun e w' ⟨he, hw⟩ => ⟨he, hc _ _ hw⟩)))
                    exact wpQuiet_nil rfl
                  · simp only [List.drop_succ_cons, List.drop_zero, Act.put, List.setIfInBounds_toArray, List.set_cons_succ, List.set_cons_zero]
                    refine store_row0 24 (.tmp 15) (.tmp 64) (by rfl) (by rfl) (by rfl) b2 (v8 (Y k)) (by rfl) (by rfl) 24 _ hrow (id_info hYk) (by rw [v8_size, v8_size, hYk, zer_len]) (v8_one _) ?_
                    have hsw := hbel2.size
                    have y0 := (i0.below hbel2 i0.lt).setRowOther (g := b2) (by have := i0.lt; omega) (v8 (Y k))
                    have y1 := (i1.below hbel2 i1.lt).setRowOther (g := b2) (by have := i1.lt; omega) (v8 (Y k))
                    have y3 := (i3.below hbel2 i3.lt).setRowOther (g := b2) (by have := i3.lt; omega) (v8 (Y k))
                    have y4 := hrow.setRow (v8 (Y k))
                    have y5 := (io.below hbel2 (Nat.le_refl _)).setRowOther (g := b2) (own_lt io hb2) (v8 (Y k))
                    have yb := below_setRow (g := b2) (ib.trans (hbel2.mono ib.size)) (by have := ib.size; omega) (v8 (Y k))
                    have hys : B4 ≤ (w9.setRow b2 (v8 (Y k))).heap.size := by have := (below_setRow (g := b2) (Below.refl b2 w9) (Nat.le_refl _) (v8 (Y k))).size; omega
                    generalize w9.setRow b2 (v8 (Y k)) = w10 at y0 y1 y3 y4 y5 yb hys ⊢
                    clear i0 i1 i3 i4 ib io hbel2 hrow
                    go_wp2_with (at_builtin; (refine append8g (.tmp 65) (.tmp 66) 28 5 (by rfl) (by rfl) B4 Tryd.underlying28 info5 (.slice spk (22 + 32 * k) capk) (X0 ++ C k) (by rfl) ?ho (some ⟨b2, 0, none⟩) 32 32 (Y k) (by rfl) hYk ?hnil ?hby ?hlen ?hB ?_; (case ho => exact y5); (case hnil => exact (fun h => by cases h)); (case hby => exact y4.bytes); (case hlen => first | omega | (simp; omega) | simp); (case hB => first | omega | (simp; omega) | simp); rw [hXk1]; intro sp17 cap17 w17 o17 b17 _g17; have hs17 := b17.size))
                    go_roundw
                    case rel => exact ⟨k + 1, sp17, cap17, by omega, rfl, by go_num, by rw [← hnx.out]; exact o17, y0.below b17 (by omega), y1.below b17 (by omega), y3.below b17 (by omega), yb.trans (b17.mono (by omega)), by omega⟩
                    case measure => simp [intOf]; omega
          · obtain rfl : k = 133 := by omega
            have hCl := hcl'.out 133
            have hpo := htop'.out
            have hXl : (X0 ++ C 133).length = 22 + 32 * 133 := by rw [List.length_append, hL22, hCl]
            have hnil := own_nil ok (by rw [hXl]; omega)
            have hrs := hS.rsum (X0 ++ C 133) spk (22 + 32 * 133) capk wr hXl (by omega) hnil ok.bytes
            rw [← hpo] at hrs
            clear hpo
            generalize C 133 = E at *
            have hz1 := z1.lt
            simp only [show 22 + 32 * 133 = 4278 from rfl] at hrs ⊢
            go_wp2_with (first | (go_at_call 36; (with_reducible refine Calls.mono hrs ?_); rintro e w8 ⟨rfl, hb8⟩) | (refine store_row0 24 (.tmp 8) (.tmp 69) (by rfl) (by rfl) (by rfl) (w0.heap.size + 1) (v8 PK) (by rfl) (by rfl) 24 _ (z1.below hb8 (by omega)) (id_info hSl) (by rw [v8_size, v8_size, hSl, zer_len]) (v8_one _) ?_))
            exact bodyPost_ret (results_row_tmp Tryd.results20 _ _ (w0.heap.size + 1) 24 (v8 PK) _ rfl ((z1.below hb8 (by omega)).setRow _) Tryd.underlying24 rfl (id_info hSl)) rfl ⟨rfl, below_setRow (zb.trans (hb8.mono zb.size)) (by omega) _⟩
end

section
open Go Go.RowKit Go.ChangeShapes Go.WideShapes Go.ChangeAt

set_option maxRecDepth 20000 in
theorem loop_list (bs : ByteArray) : ∀ n i r, bs.size - i = n → ByteArray.toList.loop bs i r = r.reverse ++ bs.data.toList.drop i := by
  intro n
  induction n with
  | zero =>
    intro i r h
    have hi : ¬ i < bs.size := by omega
    rw [ByteArray.toList.loop.eq_def, if_neg hi, List.drop_eq_nil_of_le (by have : bs.data.toList.length = bs.size := rfl
                                                                            omega)]
    simp
  | succ n ih =>
    intro i r h
    have hi : i < bs.size := by omega
    have hl : i < bs.data.toList.length := hi
    rw [ByteArray.toList.loop.eq_def, if_pos hi, ih (i + 1) _ (by omega), List.drop_eq_getElem_cons hl]
    have hl2 : i < bs.data.size := hi
    simp [ByteArray.get!, getElem!_pos bs.data i hl2]
theorem list_of (bs : ByteArray) : bs.toList = bs.data.toList := by
  unfold ByteArray.toList
  rw [loop_list bs _ 0 [] rfl]
  simp
theorem u8_inj {a b : Int} (ha : 0 ≤ a ∧ a < 256) (hb : 0 ≤ b ∧ b < 256) (h : UInt8.ofNat a.toNat = UInt8.ofNat b.toNat) : a = b := by
  have h1 := congrArg UInt8.toNat h
  simp only [UInt8.toNat_ofNat'] at h1
  omega
theorem map_inj8 : ∀ {a b : List Int}, (∀ x ∈ a, 0 ≤ x ∧ x < 256) → (∀ x ∈ b, 0 ≤ x ∧ x < 256) → (a.map fun n => UInt8.ofNat n.toNat) = (b.map fun n => UInt8.ofNat n.toNat) → a = b
  | [], [], _, _, _ => rfl
  | [], _ :: _, _, _, h => by simp at h
  | _ :: _, [], _, _, h => by simp at h
  | x :: a, y :: b, ha, hb, h => by
    simp only [List.map_cons, List.cons.injEq] at h
    rw [u8_inj (ha x (by simp)) (hb y (by simp)) h.1, map_inj8 (fun z hz => ha z (by simp [hz])) (fun z hz => hb z (by simp [hz])) h.2]
theorem str_inj8 {a b : List Int} (ha : ∀ x ∈ a, 0 ≤ x ∧ x < 256) (hb : ∀ x ∈ b, 0 ≤ x ∧ x < 256) (h : a ≠ b) : (!((strOfNums a).toList == (strOfNums b).toList)) = true := by
  simp only [list_of, strOfNums_data, Bool.not_eq_true', beq_eq_false_iff_ne, ne_eq]
  exact fun e => h (map_inj8 ha hb e)

/-- From one signature both ways back answer alike. -/
theorem backs_agree (S : List Int → List Int) (hS : Hash S) (nm sig msg : List Int) (q : Int) (mp sp : Option Addr) (ml mc len cap : Nat) (hn : nm.length = 16) (hml : msg.length = ml) (hmn : mp = none → mc = 0 ∧ ml = 0) (hmm : ml ≤ 1000000) (hsl : sig.length = len) (hcp : len ≤ cap) (h8 : ∀ x ∈ sig.take 4, 0 ≤ x ∧ x < 256) :
    ∃ (PK : List Int) (E : Int), PK.length = 32 ∧
      (∀ wx, Laid wx → Bytes wx mp msg → Bytes wx sp sig → Calls Tryd.prog 18 #[.agg (v8 nm), .int .i64 q, .slice mp ml mc, .slice sp len cap] wx fun e w' => e = .returned (.tuple #[.agg (v8 PK), .int .i64 E]) ∧ Below wx.heap.size wx w') ∧
      (∀ wx, Bytes wx mp msg → Bytes wx sp sig → Calls Tryd.prog 20 #[.agg (v8 nm), .int .i64 q, .slice mp ml mc, .slice sp len cap] wx fun e w' => e = .returned (.tuple #[.agg (v8 PK), .int .i64 E]) ∧ Below wx.heap.size wx w') := by
  by_cases hl : len = 4292
  · subst hl
    by_cases ht : sig.take 4 = n4 2
    · refine ⟨backL S (nm ++ n4 q) msg sig, 0, hS.len _, fun wx hL h1 h2 => ?_, fun wx h1 h2 => ?_⟩
      · exact Back_ok S hS msg nm sig q mp sp ml mc 4292 cap wx hL hn hml (by omega) h1 hsl hcp h2 rfl ht
      · have h2' := h2
        obtain ⟨b, o, rfl, _⟩ := h2 (by omega)
        exact rBack_ok S hS msg nm sig q mp b o ml mc cap wx hn hml hmn hmm h1 hsl hcp h2' ht
    · refine ⟨zer 32, 12, zer_len 32, fun wx hL h1 h2 => ?_, fun wx h1 h2 => ?_⟩
      · exact Back_type nm sig q mp sp ml mc 4292 cap wx hsl h2 rfl ht
      · have h2' := h2
        obtain ⟨b, o, rfl, _⟩ := h2 (by omega)
        refine rBack_type nm sig q mp b o ml mc cap wx hsl hcp h2' (str_inj8 h8 ?_ ht)
        intro x hx
        have : n4 2 = [0, 0, 0, 2] := by decide
        rw [this] at hx
        simp at hx
        omega
  · exact ⟨zer 32, 12, zer_len 32, fun wx _ _ h2 => Back_len nm sig q mp sp ml mc len cap wx hsl h2 hl, fun wx _ _ => rBack_len nm q mp sp ml mc len cap wx hl⟩

set_option maxRecDepth 20000 in
theorem open_bytes8 {H : Type} {enc : TypeId × Value → H} {w : World} {base : Nat} {sp : Nat → Bool} {held : Bool} {r : Reach} {b0 : Nat} {v : Value} {d : DataW H} {p : List MemPlace}
    (hv : Value.okWide Tryd.prog w r b0 28 v) (h : DataW.Trod enc Tryd.prog w base sp held 28 v d p) :
    ∃ (a : Option Addr) (len cap : Nat) (bs : List Int), v = .slice a len cap ∧ bs.length = len ∧ len ≤ cap ∧ cap ≤ maxLen ∧ (a = none → cap = 0 ∧ len = 0) ∧ Bytes w a bs ∧ ∀ x ∈ bs, 0 ≤ x ∧ x < 256 := by
  obtain ⟨a, len, cap, bs, rfl, h1, h2, h3, h4, h5⟩ := open_bytes hv h
  refine ⟨a, len, cap, bs, rfl, h1, h2, h3, h4, h5, ?_⟩
  obtain ⟨fuel, hf⟩ := h
  have c5 : Tryd.prog.cellsOf 5 = 1 := by kernel_rfl
  rcases open_ints Tryd.underlying28 Tryd.underlying5 c5 hf with ⟨hcs, _⟩ | ⟨ad, len', cap', zs, hcs, _, hl, hm, hz, _, hcell, hwf⟩
  · simp only [Value.cells, List.cons.injEq, and_true] at hcs
    injection hcs with e1 e2 e3
    subst e1; subst e2; subst e3
    intro x hx
    rw [List.eq_nil_of_length_eq_zero h1] at hx
    cases hx
  · simp only [Value.cells, List.cons.injEq, and_true] at hcs
    injection hcs with e1 e2 e3
    subst e1; subst e2; subst e3
    have hzl : len ≤ zs.length := by rw [hz]; split <;> omega
    intro x hx
    obtain ⟨j, hj, rfl⟩ := List.mem_iff_getElem.1 hx
    obtain ⟨b, o, e, hc⟩ := h5 (by omega)
    injection e with e
    subst e
    have c1 := hc j hj
    have c2 := hcell j (by omega)
    have e2 : (Addr.add ⟨b, o, none⟩ j) = ⟨b, o + j, none⟩ := by
      by_cases hj0 : j = 0
      · subst hj0; simp [Addr.add]
      · simp [Addr.add, hj0]
    rw [e2, c1] at c2
    injection c2 with c2
    injection c2 with _ c2
    have c3 : bs[j] = zs.getD j 0 := by simpa [gi, hj] using c2
    have hm : zs.getD j 0 ∈ zs := by
      have hj2 : j < zs.length := by omega
      simp [List.getD, hj2]
    have hw := hwf _ hm
    rw [c3]
    generalize zs.getD j 0 = z at hw ⊢
    simp [Lit.wf, IntKind.min, IntKind.max, IntKind.signed, IntKind.bits] at hw
    omega
end

end Go.Proofs.YtoebnkepeledmaaDoor
