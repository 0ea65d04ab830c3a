/- The reference's four and Inode: an inode's block, written or refused. No old memory turns. -/
import Derived.Test.YtgcffdnbihfghaaWrong
import Derived.Test.YtgcffdnbihfghaaInode
import Derived.Test.YtgcffdnbihfghaaClaims9
namespace Go.Proofs.Ytgcffdnbihfghaa
open Go Go.RowKit
theorem wrap8 {x : Int} (h : 0 ≤ x ∧ x ≤ 5) : IntKind.u8.wrap x = x := by
  rcases (by omega : x = 0 ∨ x = 1 ∨ x = 2 ∨ x = 3 ∨ x = 4 ∨ x = 5) with rfl | rfl | rfl | rfl | rfl | rfl <;> rfl
set_option maxRecDepth 20000 in
set_option maxHeartbeats 400000 in
theorem rfour_any (l : List Int) (n : Int) (v : Value) (w : World) (B : Nat) (ho : Own8 w B 5 v l) (hl : l.length ≤ 1000000) (hB : B ≤ w.heap.size) :
    Calls Try.prog 34 #[v, .int .i64 n] w fun e w' => ∃ sp cap, e = .returned (.slice sp (l.length + 4) cap) ∧ Own8 w' B 5 (.slice sp (l.length + 4) cap) (l ++ n4 n) ∧ Below B w w' ∧ Grew w w' v.ownBlock ∧ w.heap.size ≤ w'.heap.size := by
  have hby : Bytes (w.alloc (.cells (v8 (n4 n)) 5)) (some ⟨w.heap.size, 0, none⟩) (n4 n) := bytes_lit w _
  have ho1 := ho.alloc (.cells (v8 (n4 n)) 5)
  go_enter Try.func34, Try.ntmps34
  go_wp2_with (at_builtin; (refine append8g (.tmp 5) (.tmp 17) 27 5 (by rfl) (by rfl) B Try.underlying27 info5 v l (by rfl) ?ho (some ⟨w.heap.size, 0, none⟩) 4 4 (n4 n) (by rfl) rfl ?hnil ?hby ?hlen ?hB ?_; (case ho => exact ho1); (case hnil => exact (fun h => by cases h)); (case hby => exact hby); (case hlen => omega); (case hB => simp; omega); rw [show (l ++ n4 n).length = l.length + 4 by simp [n4]]; intro sp5 cap5 w5 o5 b5 g5))
  go_ret
  obtain ⟨_, _, _, gs5, gb5⟩ := g5
  refine ⟨sp5, cap5, rfl, o5, ((Below.refl B w).alloc hB _).trans b5, fun g hg hne => ?_, ?_⟩
  · rw [gb5 g (by simp; omega) hne]
    exact Below.heap_alloc w _ g hg
  · simp at gs5
    omega


set_option maxRecDepth 20000 in
set_option maxHeartbeats 1000000 in
theorem rinode_any (n : Nd) (w0 : World) (ht : n.top.length = 32) :
    Calls Try.prog 12 #[.agg (nc n)] w0 (Gives w0 (outN n) (errN n)) := by
  have hb : Below w0.heap.size w0 (w0.alloc (.cells (nc n) 25)) := (Below.refl _ _).alloc (Nat.le_refl _) _
  have hi25 : (Try.prog.info? 25).map (·.size) = some (nc n).size := by rw [nc_size ht]; kernel_rfl
  have hwr := fun wx => wrong_any n wx ht
  have hbad := @outN_bad n _ rfl
  have hok0 := @outN_ok n
  have hlv := @okN_levels n
  have hE := @errN_kind n
  have hE2 : errN n = 0 → okN n = true := by
    intro h
    unfold errN at h
    by_cases h0 : n.kind ≠ 1 ∧ n.kind ≠ 2
    · rw [if_pos h0] at h; exact absurd h (by decide)
    · rw [if_neg h0] at h
      by_cases h1 : okN n = true
      · exact h1
      · rw [if_neg h1] at h; exact absurd h (by decide)
  have henc : encN n = [105, n.kind] ++ n4 n.size ++ [n.levels] ++ n.top := rfl
  have hlen : (encN n).length = 39 := encN_len ht
  have hrow : Row (w0.alloc (.cells (nc n) 25)) w0.heap.size 25 (nc n) := Row.new _ _ _
  have hgg : w0.heap.size < (w0.alloc (.cells (nc n) 25)).heap.size := by simp
  obtain ⟨E, hEe⟩ : ∃ E, errN n = E := ⟨_, rfl⟩
  obtain ⟨L, hL⟩ : ∃ L, outN n = L := ⟨_, rfl⟩
  obtain ⟨N, hN⟩ : ∃ N, nc n = N := ⟨_, rfl⟩
  simp only [hEe, hL, hN] at hb hi25 hwr hbad hok0 hE hE2 hrow hgg ⊢
  have hr' : ∀ wx, Row wx w0.heap.size 25 N → NRow wx w0.heap.size n := fun wx h => ⟨by rw [hN]; exact h⟩
  obtain ⟨kd, s, lv, tp⟩ := n
  simp only at ht hlv henc hE
  clear hN hL hEe
  go_enter Try.func12, Try.ntmps12
  by_cases hE0 : E = 0
  · subst hE0
    obtain rfl := hok0 rfl
    obtain ⟨hv1, hs0, hs1⟩ := hlv (hE2 rfl)
    have hlr : 0 ≤ lv ∧ lv ≤ 5 := by rw [hv1]; exact lvl_range s
    clear hbad hok0 hlv hv1 hE2
    go_upto_region 3 with (first | (refine wpList_load_row (by rfl) 25 (.tmp 1) (by rfl) w0.heap.size (by rfl) 25 N (0, 0) _ hrow Try.underlying25 rfl hi25 ?_) | (go_at_call 33; (with_reducible refine Calls.mono (hwr _) ?_); rintro e w2 ⟨rfl, hb2⟩))
    replace hrow : Row w2 w0.heap.size 25 N := hrow.below hb2 hrow.lt
    have b2 := hb.trans (hb2.mono hb.size)
    obtain ⟨B, hB⟩ : ∃ B, B = w2.heap.size := ⟨_, rfl⟩
    have hgB : w0.heap.size < B := by rw [hB]; exact hrow.lt
    have hsB : ∀ {w : World}, Below B w2 w → B ≤ w.heap.size := fun h => by have := h.size; omega
    obtain ⟨g0, hg0⟩ : ∃ g0, g0 = w0.heap.size := ⟨_, rfl⟩
    rw [← hg0] at hrow hgB hr'
    have hBg : w0.heap.size < B := by omega
    simp only [← hg0]
    have hc0 : ∀ wx, Below B w2 wx → wx.cell? ⟨g0, 0, none⟩ = some (.int .i64 kd) := fun wx h => (hr' _ (hrow.below h hgB)).c0
    have hc1 : ∀ wx, Below B w2 wx → wx.cell? ⟨g0, 1, none⟩ = some (.int .i64 s) := fun wx h => (hr' _ (hrow.below h hgB)).c1
    have hc2 : ∀ wx, Below B w2 wx → wx.cell? ⟨g0, 2, none⟩ = some (.int .i64 lv) := fun wx h => (hr' _ (hrow.below h hgB)).c2
    clear hwr hb hb2 hgg hg0
    rcases hE (by decide) with rfl | rfl
    · have hX6 : ([105, 1] ++ n4 s).length = 6 := rfl
      have hX7 : ([105, 1] ++ n4 s ++ [lv]).length = 7 := rfl
      refine region_invFA  (by kernel_rfl) (by kernel_rfl) (fun a0 listed a w => ∃ s4 s10 s11 s12 s13 s14 s15 s16 s17 s18 s19 s20 s21, a = (Act.put (Act.put (Act.put (Act.put (Act.put (Act.put (Act.put (Act.put (Act.put (Act.put (Act.put (Act.put (Act.put a0 (some 4) s4) (some 10) s10) (some 11) s11) (some 12) s12) (some 13) s13) (some 14) s14) (some 15) s15) (some 16) s16) (some 17) s17) (some 18) s18) (some 19) s19) (some 20) s20) (some 21) s21) ∧ Below B w2 w ∧ (listed.getD 0 false = true → s10 = .pointer (some ⟨g0, 0, none⟩)) ∧ (listed.getD 1 false = true → s11 = .int .i64 1) ∧ (listed.getD 2 false = true → s12 = .int .u8 1) ∧ (listed.getD 3 false = true → listed.getD 6 false = false → OwnS w B s13 2 [105, 1]) ∧ (listed.getD 4 false = true → s14 = .pointer (some ⟨g0, 1, none⟩)) ∧ (listed.getD 5 false = true → s15 = .int .i64 s) ∧ (listed.getD 6 false = true → listed.getD 11 false = false → OwnS w B s16 6 ([105, 1] ++ n4 s)) ∧ (listed.getD 7 false = true → s17 = .pointer (some ⟨g0, 2, none⟩)) ∧ (listed.getD 8 false = true → s18 = .int .i64 lv) ∧ (listed.getD 9 false = true → s19 = .int .u8 lv) ∧ (listed.getD 10 false = true → listed.getD 11 false = false → LitS w B s20 1 [lv]) ∧ (listed.getD 11 false = true → listed.getD 12 false = false → OwnS w B s21 7 ([105, 1] ++ n4 s ++ [lv])) ∧ (listed.getD 12 false = true → OwnS w B s4 7 ([105, 1] ++ n4 s ++ [lv])) ∧ (listed.getD 10 false = true → listed.getD 11 false = false → listed.getD 3 false = true → listed.getD 6 false = false → s20.ownBlock ≠ s13.ownBlock)) ?_ ?_ ?_
      all_goals simp only [Act.put, List.setIfInBounds_toArray, List.set_cons_succ, List.set_cons_zero]
      · exact ⟨_, _, _, _, _, _, _, _, _, _, _, _, _, rfl, (Below.refl B _).drew, (fun h => absurd h (by rw [getD_replicate_false]; decide)), (fun h => absurd h (by rw [getD_replicate_false]; decide)), (fun h => absurd h (by rw [getD_replicate_false]; decide)), (fun h => absurd h (by rw [getD_replicate_false]; decide)), (fun h => absurd h (by rw [getD_replicate_false]; decide)), (fun h => absurd h (by rw [getD_replicate_false]; decide)), (fun h => absurd h (by rw [getD_replicate_false]; decide)), (fun h => absurd h (by rw [getD_replicate_false]; decide)), (fun h => absurd h (by rw [getD_replicate_false]; decide)), (fun h => absurd h (by rw [getD_replicate_false]; decide)), (fun h => absurd h (by rw [getD_replicate_false]; decide)), (fun h => absurd h (by rw [getD_replicate_false]; decide)), (fun h => absurd h (by rw [getD_replicate_false]; decide)), (fun h => absurd h (by rw [getD_replicate_false]; decide))⟩
      · intro listed a w i o hls hJ hin ho hi hall hcl
        obtain ⟨s4, s10, s11, s12, s13, s14, s15, s16, s17, s18, s19, s20, s21, rfl, hbW, c0, c1, c2, c3, c4, c5, c6, c7, c8, c9, c10, c11, c12, d10_3⟩ := hJ
        replace hin : i < 13 := hin
        rcases (by omega : i = 0 ∨ i = 1 ∨ i = 2 ∨ i = 3 ∨ i = 4 ∨ i = 5 ∨ i = 6 ∨ i = 7 ∨ i = 8 ∨ i = 9 ∨ i = 10 ∨ i = 11 ∨ i = 12) with rfl | rfl | rfl | rfl | rfl | rfl | rfl | rfl | rfl | rfl | rfl | rfl | rfl
        · obtain rfl := Option.some.inj ho
          have hsz : 0 < listed.size := by rw [hls]; decide
          have hbw := hbW
          refine inv_val (w' := w) (.pointer (some ⟨g0, 0, none⟩)) rfl rfl (by kernel_rfl) ?_
          exact ⟨s4, (.pointer (some ⟨g0, 0, none⟩)), s11, s12, s13, s14, s15, s16, s17, s18, s19, s20, s21, rfl, hbw, (fun _ => rfl), (fun h => c1 (bit_ne h (by decide))), (fun h => c2 (bit_ne h (by decide))), (fun h h2 => c3 (bit_ne h (by decide)) (bit_ne h2 (by decide))), (fun h => c4 (bit_ne h (by decide))), (fun h => c5 (bit_ne h (by decide))), (fun h h2 => c6 (bit_ne h (by decide)) (bit_ne h2 (by decide))), (fun h => c7 (bit_ne h (by decide))), (fun h => c8 (bit_ne h (by decide))), (fun h => c9 (bit_ne h (by decide))), (fun h h2 => c10 (bit_ne h (by decide)) (bit_ne h2 (by decide))), (fun h h2 => c11 (bit_ne h (by decide)) (bit_ne h2 (by decide))), (fun h => c12 (bit_ne h (by decide))), (fun h h2 h3 h4 => d10_3 (bit_ne h (by decide)) (bit_ne h2 (by decide)) (bit_ne h3 (by decide)) (bit_ne h4 (by decide)))⟩
        · obtain rfl := Option.some.inj ho
          have hsz : 1 < listed.size := by rw [hls]; decide
          have hdep0 : listed.getD 0 false = true := hall ⟨0, .data⟩ (by simp) (by rfl)
          obtain rfl := c0 hdep0
          have hbw := hbW
          refine inv_val (w' := w) (.int .i64 1) rfl rfl (by have hq := hc0 w hbW; go_simp) ?_
          exact ⟨s4, (.pointer (some ⟨g0, 0, none⟩)), (.int .i64 1), s12, s13, s14, s15, s16, s17, s18, s19, s20, s21, rfl, hbw, (fun h => c0 (bit_ne h (by decide))), (fun _ => rfl), (fun h => c2 (bit_ne h (by decide))), (fun h h2 => c3 (bit_ne h (by decide)) (bit_ne h2 (by decide))), (fun h => c4 (bit_ne h (by decide))), (fun h => c5 (bit_ne h (by decide))), (fun h h2 => c6 (bit_ne h (by decide)) (bit_ne h2 (by decide))), (fun h => c7 (bit_ne h (by decide))), (fun h => c8 (bit_ne h (by decide))), (fun h => c9 (bit_ne h (by decide))), (fun h h2 => c10 (bit_ne h (by decide)) (bit_ne h2 (by decide))), (fun h h2 => c11 (bit_ne h (by decide)) (bit_ne h2 (by decide))), (fun h => c12 (bit_ne h (by decide))), (fun h h2 h3 h4 => d10_3 (bit_ne h (by decide)) (bit_ne h2 (by decide)) (bit_ne h3 (by decide)) (bit_ne h4 (by decide)))⟩
        · obtain rfl := Option.some.inj ho
          have hsz : 2 < listed.size := by rw [hls]; decide
          have hdep1 : listed.getD 1 false = true := hall ⟨1, .data⟩ (by simp) (by rfl)
          obtain rfl := c1 hdep1
          have hbw := hbW
          refine inv_val (w' := w) (.int .u8 1) rfl rfl (by go_simp; rfl) ?_
          exact ⟨s4, s10, (.int .i64 1), (.int .u8 1), s13, s14, s15, s16, s17, s18, s19, s20, s21, rfl, hbw, (fun h => c0 (bit_ne h (by decide))), (fun h => c1 (bit_ne h (by decide))), (fun _ => rfl), (fun h h2 => c3 (bit_ne h (by decide)) (bit_ne h2 (by decide))), (fun h => c4 (bit_ne h (by decide))), (fun h => c5 (bit_ne h (by decide))), (fun h h2 => c6 (bit_ne h (by decide)) (bit_ne h2 (by decide))), (fun h => c7 (bit_ne h (by decide))), (fun h => c8 (bit_ne h (by decide))), (fun h => c9 (bit_ne h (by decide))), (fun h h2 => c10 (bit_ne h (by decide)) (bit_ne h2 (by decide))), (fun h h2 => c11 (bit_ne h (by decide)) (bit_ne h2 (by decide))), (fun h => c12 (bit_ne h (by decide))), (fun h h2 h3 h4 => d10_3 (bit_ne h (by decide)) (bit_ne h2 (by decide)) (bit_ne h3 (by decide)) (bit_ne h4 (by decide)))⟩
        · obtain rfl := Option.some.inj ho
          have hsz : 3 < listed.size := by rw [hls]; decide
          have hdep2 : listed.getD 2 false = true := hall ⟨2, .data⟩ (by simp) (by rfl)
          obtain rfl := c2 hdep2
          have hbw : Below B w2 (w.alloc (.cells (v8 [105, 1]) 5)) := hbW.alloc (hsB hbW) _
          refine inv_val (.slice (some ⟨w.heap.size, 0, none⟩) 2 2) (w' := w.alloc (.cells (v8 [105, 1]) 5)) rfl rfl (by kernel_rfl) ?_
          have me_d10_3 := fun (h : LitS w B s20 1 [lv]) => h.ne_new (m := 2)
          exact ⟨s4, s10, s11, (.int .u8 1), (.slice (some ⟨w.heap.size, 0, none⟩) 2 2), s14, s15, s16, s17, s18, s19, s20, s21, rfl, hbw, (fun h => c0 (bit_ne h (by decide))), (fun h => c1 (bit_ne h (by decide))), (fun h => c2 (bit_ne h (by decide))), (fun _ _ => OwnS.lit w B (hsB hbW) 2 [105, 1] (by rfl) (by omega)), (fun h => c4 (bit_ne h (by decide))), (fun h => c5 (bit_ne h (by decide))), (fun h h2 => (c6 (bit_ne h (by decide)) (bit_ne h2 (by decide))).alloc _), (fun h => c7 (bit_ne h (by decide))), (fun h => c8 (bit_ne h (by decide))), (fun h => c9 (bit_ne h (by decide))), (fun h h2 => (c10 (bit_ne h (by decide)) (bit_ne h2 (by decide))).alloc _), (fun h h2 => (c11 (bit_ne h (by decide)) (bit_ne h2 (by decide))).alloc _), (fun h => (c12 (bit_ne h (by decide))).alloc _), (fun h h2 _ _ => me_d10_3 (c10 (bit_ne h (by decide)) (bit_ne h2 (by decide))))⟩
        · obtain rfl := Option.some.inj ho
          have hsz : 4 < listed.size := by rw [hls]; decide
          have hbw := hbW
          refine inv_val (w' := w) (.pointer (some ⟨g0, 1, none⟩)) rfl rfl (by kernel_rfl) ?_
          exact ⟨s4, s10, s11, s12, s13, (.pointer (some ⟨g0, 1, none⟩)), s15, s16, s17, s18, s19, s20, s21, rfl, hbw, (fun h => c0 (bit_ne h (by decide))), (fun h => c1 (bit_ne h (by decide))), (fun h => c2 (bit_ne h (by decide))), (fun h h2 => c3 (bit_ne h (by decide)) (bit_ne h2 (by decide))), (fun _ => rfl), (fun h => c5 (bit_ne h (by decide))), (fun h h2 => c6 (bit_ne h (by decide)) (bit_ne h2 (by decide))), (fun h => c7 (bit_ne h (by decide))), (fun h => c8 (bit_ne h (by decide))), (fun h => c9 (bit_ne h (by decide))), (fun h h2 => c10 (bit_ne h (by decide)) (bit_ne h2 (by decide))), (fun h h2 => c11 (bit_ne h (by decide)) (bit_ne h2 (by decide))), (fun h => c12 (bit_ne h (by decide))), (fun h h2 h3 h4 => d10_3 (bit_ne h (by decide)) (bit_ne h2 (by decide)) (bit_ne h3 (by decide)) (bit_ne h4 (by decide)))⟩
        · obtain rfl := Option.some.inj ho
          have hsz : 5 < listed.size := by rw [hls]; decide
          have hdep4 : listed.getD 4 false = true := hall ⟨4, .data⟩ (by simp) (by rfl)
          obtain rfl := c4 hdep4
          have hbw := hbW
          refine inv_val (w' := w) (.int .i64 s) rfl rfl (by have hq := hc1 w hbW; go_simp) ?_
          exact ⟨s4, s10, s11, s12, s13, (.pointer (some ⟨g0, 1, none⟩)), (.int .i64 s), s16, s17, s18, s19, s20, s21, rfl, hbw, (fun h => c0 (bit_ne h (by decide))), (fun h => c1 (bit_ne h (by decide))), (fun h => c2 (bit_ne h (by decide))), (fun h h2 => c3 (bit_ne h (by decide)) (bit_ne h2 (by decide))), (fun h => c4 (bit_ne h (by decide))), (fun _ => rfl), (fun h h2 => c6 (bit_ne h (by decide)) (bit_ne h2 (by decide))), (fun h => c7 (bit_ne h (by decide))), (fun h => c8 (bit_ne h (by decide))), (fun h => c9 (bit_ne h (by decide))), (fun h h2 => c10 (bit_ne h (by decide)) (bit_ne h2 (by decide))), (fun h h2 => c11 (bit_ne h (by decide)) (bit_ne h2 (by decide))), (fun h => c12 (bit_ne h (by decide))), (fun h h2 h3 h4 => d10_3 (bit_ne h (by decide)) (bit_ne h2 (by decide)) (bit_ne h3 (by decide)) (bit_ne h4 (by decide)))⟩
        · obtain rfl := Option.some.inj ho
          have hsz : 6 < listed.size := by rw [hls]; decide
          have hdep3 : listed.getD 3 false = true := hall ⟨3, .data⟩ (by simp) (by rfl)
          obtain ⟨sp3, cap3, rfl, o3⟩ := c3 hdep3 hi
          have hdep5 : listed.getD 5 false = true := hall ⟨5, .data⟩ (by simp) (by rfl)
          obtain rfl := c5 hdep5
          refine inv_call 34 #[.slice sp3 2 cap3, .int .i64 s] _ rfl rfl (by kernel_rfl) (rfour_any [105, 1] s _ w B o3 (by simp) (hsB hbW)) ?_
          rintro e w' ⟨sp, cap, rfl, ow, hb', hg, _⟩
          have hbw : Below B w2 w' := hbW.trans hb'
          have hown := o3
          refine ⟨_, rfl, ?_⟩
          exact ⟨s4, s10, s11, s12, (.slice sp3 2 cap3), s14, (.int .i64 s), _, s17, s18, s19, s20, s21, rfl, hbw, (fun h => c0 (bit_ne h (by decide))), (fun h => c1 (bit_ne h (by decide))), (fun h => c2 (bit_ne h (by decide))), (fun _ h2 => absurd (bit_on hsz) (by rw [h2]; decide)), (fun h => c4 (bit_ne h (by decide))), (fun h => c5 (bit_ne h (by decide))), (fun _ _ => ⟨sp, cap, rfl, ow⟩), (fun h => c7 (bit_ne h (by decide))), (fun h => c8 (bit_ne h (by decide))), (fun h => c9 (bit_ne h (by decide))), (fun h h2 => (c10 (bit_ne h (by decide)) (bit_ne h2 (by decide))).grew hg (d10_3 (bit_ne h (by decide)) (bit_ne h2 (by decide)) hdep3 hi)), (fun h _ => absurd (hcl 11 _ rfl (bit_ne h (by decide)) ⟨6, .data⟩ (by simp) rfl) (by rw [hi]; decide)), (fun h => absurd (hcl 11 _ rfl (hcl 12 _ rfl (bit_ne h (by decide)) ⟨11, .data⟩ (by simp) rfl) ⟨6, .data⟩ (by simp) rfl) (by rw [hi]; decide)), (fun _ _ _ h4 => absurd (bit_on hsz) (by rw [h4]; decide))⟩
        · obtain rfl := Option.some.inj ho
          have hsz : 7 < listed.size := by rw [hls]; decide
          have hbw := hbW
          refine inv_val (w' := w) (.pointer (some ⟨g0, 2, none⟩)) rfl rfl (by kernel_rfl) ?_
          exact ⟨s4, s10, s11, s12, s13, s14, s15, s16, (.pointer (some ⟨g0, 2, none⟩)), s18, s19, s20, s21, rfl, hbw, (fun h => c0 (bit_ne h (by decide))), (fun h => c1 (bit_ne h (by decide))), (fun h => c2 (bit_ne h (by decide))), (fun h h2 => c3 (bit_ne h (by decide)) (bit_ne h2 (by decide))), (fun h => c4 (bit_ne h (by decide))), (fun h => c5 (bit_ne h (by decide))), (fun h h2 => c6 (bit_ne h (by decide)) (bit_ne h2 (by decide))), (fun _ => rfl), (fun h => c8 (bit_ne h (by decide))), (fun h => c9 (bit_ne h (by decide))), (fun h h2 => c10 (bit_ne h (by decide)) (bit_ne h2 (by decide))), (fun h h2 => c11 (bit_ne h (by decide)) (bit_ne h2 (by decide))), (fun h => c12 (bit_ne h (by decide))), (fun h h2 h3 h4 => d10_3 (bit_ne h (by decide)) (bit_ne h2 (by decide)) (bit_ne h3 (by decide)) (bit_ne h4 (by decide)))⟩
        · obtain rfl := Option.some.inj ho
          have hsz : 8 < listed.size := by rw [hls]; decide
          have hdep7 : listed.getD 7 false = true := hall ⟨7, .data⟩ (by simp) (by rfl)
          obtain rfl := c7 hdep7
          have hbw := hbW
          refine inv_val (w' := w) (.int .i64 lv) rfl rfl (by have hq := hc2 w hbW; go_simp) ?_
          exact ⟨s4, s10, s11, s12, s13, s14, s15, s16, (.pointer (some ⟨g0, 2, none⟩)), (.int .i64 lv), s19, s20, s21, rfl, hbw, (fun h => c0 (bit_ne h (by decide))), (fun h => c1 (bit_ne h (by decide))), (fun h => c2 (bit_ne h (by decide))), (fun h h2 => c3 (bit_ne h (by decide)) (bit_ne h2 (by decide))), (fun h => c4 (bit_ne h (by decide))), (fun h => c5 (bit_ne h (by decide))), (fun h h2 => c6 (bit_ne h (by decide)) (bit_ne h2 (by decide))), (fun h => c7 (bit_ne h (by decide))), (fun _ => rfl), (fun h => c9 (bit_ne h (by decide))), (fun h h2 => c10 (bit_ne h (by decide)) (bit_ne h2 (by decide))), (fun h h2 => c11 (bit_ne h (by decide)) (bit_ne h2 (by decide))), (fun h => c12 (bit_ne h (by decide))), (fun h h2 h3 h4 => d10_3 (bit_ne h (by decide)) (bit_ne h2 (by decide)) (bit_ne h3 (by decide)) (bit_ne h4 (by decide)))⟩
        · obtain rfl := Option.some.inj ho
          have hsz : 9 < listed.size := by rw [hls]; decide
          have hdep8 : listed.getD 8 false = true := hall ⟨8, .data⟩ (by simp) (by rfl)
          obtain rfl := c8 hdep8
          have hbw := hbW
          refine inv_val (w' := w) (.int .u8 lv) rfl rfl (by go_simp; exact wrap8 hlr) ?_
          exact ⟨s4, s10, s11, s12, s13, s14, s15, s16, s17, (.int .i64 lv), (.int .u8 lv), s20, s21, rfl, hbw, (fun h => c0 (bit_ne h (by decide))), (fun h => c1 (bit_ne h (by decide))), (fun h => c2 (bit_ne h (by decide))), (fun h h2 => c3 (bit_ne h (by decide)) (bit_ne h2 (by decide))), (fun h => c4 (bit_ne h (by decide))), (fun h => c5 (bit_ne h (by decide))), (fun h h2 => c6 (bit_ne h (by decide)) (bit_ne h2 (by decide))), (fun h => c7 (bit_ne h (by decide))), (fun h => c8 (bit_ne h (by decide))), (fun _ => rfl), (fun h h2 => c10 (bit_ne h (by decide)) (bit_ne h2 (by decide))), (fun h h2 => c11 (bit_ne h (by decide)) (bit_ne h2 (by decide))), (fun h => c12 (bit_ne h (by decide))), (fun h h2 h3 h4 => d10_3 (bit_ne h (by decide)) (bit_ne h2 (by decide)) (bit_ne h3 (by decide)) (bit_ne h4 (by decide)))⟩
        · obtain rfl := Option.some.inj ho
          have hsz : 10 < listed.size := by rw [hls]; decide
          have hdep9 : listed.getD 9 false = true := hall ⟨9, .data⟩ (by simp) (by rfl)
          obtain rfl := c9 hdep9
          have hbw : Below B w2 (w.alloc (.cells (v8 [lv]) 5)) := hbW.alloc (hsB hbW) _
          refine inv_val (.slice (some ⟨w.heap.size, 0, none⟩) 1 1) (w' := w.alloc (.cells (v8 [lv]) 5)) rfl rfl (by kernel_rfl) ?_
          exact ⟨s4, s10, s11, s12, s13, s14, s15, s16, s17, s18, (.int .u8 lv), (.slice (some ⟨w.heap.size, 0, none⟩) 1 1), s21, rfl, hbw, (fun h => c0 (bit_ne h (by decide))), (fun h => c1 (bit_ne h (by decide))), (fun h => c2 (bit_ne h (by decide))), (fun h h2 => (c3 (bit_ne h (by decide)) (bit_ne h2 (by decide))).alloc _), (fun h => c4 (bit_ne h (by decide))), (fun h => c5 (bit_ne h (by decide))), (fun h h2 => (c6 (bit_ne h (by decide)) (bit_ne h2 (by decide))).alloc _), (fun h => c7 (bit_ne h (by decide))), (fun h => c8 (bit_ne h (by decide))), (fun h => c9 (bit_ne h (by decide))), (fun _ _ => LitS.new w B (hsB hbW) 1 [lv] (by rfl)), (fun h h2 => (c11 (bit_ne h (by decide)) (bit_ne h2 (by decide))).alloc _), (fun h => (c12 (bit_ne h (by decide))).alloc _), (fun _ _ h3 h4 => litNew (c3 (bit_ne h3 (by decide)) (bit_ne h4 (by decide))))⟩
        · obtain rfl := Option.some.inj ho
          have hsz : 11 < listed.size := by rw [hls]; decide
          have hdep6 : listed.getD 6 false = true := hall ⟨6, .data⟩ (by simp) (by rfl)
          obtain ⟨sp6, cap6, rfl, o6⟩ := c6 hdep6 hi
          have hdep10 : listed.getD 10 false = true := hall ⟨10, .data⟩ (by simp) (by rfl)
          obtain ⟨b10, rfl, r10, hb10⟩ := c10 hdep10 hi
          refine inv_op rfl rfl (wp8g (.tmp 16) (.tmp 20) 27 5 rfl B Try.underlying27 info5 _ ([105, 1] ++ n4 s) rfl o6 (some ⟨b10, 0, none⟩) 1 1 [lv] rfl rfl (fun h => by cases h) r10.bytes (by first | omega | simp | (simp; omega)) (hsB hbW) ?_)
          intro sp cap w' ow hb' hgg
          have hg := Grew.of hgg
          have hbw : Below B w2 w' := hbW.trans hb'
          have hown := o6
          rw [hX7] at ow ⊢
          exact ⟨s4, s10, s11, s12, s13, s14, s15, (.slice sp6 6 cap6), s17, s18, s19, (.slice (some ⟨b10, 0, none⟩) 1 1), (.slice sp 7 cap), rfl, hbw, (fun h => c0 (bit_ne h (by decide))), (fun h => c1 (bit_ne h (by decide))), (fun h => c2 (bit_ne h (by decide))), (fun _ h2 => absurd hdep6 (by rw [bit_ne h2 (by decide)]; decide)), (fun h => c4 (bit_ne h (by decide))), (fun h => c5 (bit_ne h (by decide))), (fun _ h2 => absurd (bit_on hsz) (by rw [h2]; decide)), (fun h => c7 (bit_ne h (by decide))), (fun h => c8 (bit_ne h (by decide))), (fun h => c9 (bit_ne h (by decide))), (fun _ h2 => absurd (bit_on hsz) (by rw [h2]; decide)), (fun _ _ => ⟨sp, cap, rfl, ow⟩), (fun h => absurd (hcl 12 _ rfl (bit_ne h (by decide)) ⟨11, .data⟩ (by simp) rfl) (by rw [hi]; decide)), (fun _ h2 _ _ => absurd (bit_on hsz) (by rw [h2]; decide))⟩
        · obtain rfl := Option.some.inj ho
          have hsz : 12 < listed.size := by rw [hls]; decide
          have hdep11 : listed.getD 11 false = true := hall ⟨11, .data⟩ (by simp) (by rfl)
          obtain ⟨sp11, cap11, rfl, o11⟩ := c11 hdep11 hi
          have hbw := hbW
          refine inv_val (w' := w) (.slice sp11 7 cap11) rfl rfl rfl ?_
          exact ⟨(.slice sp11 7 cap11), s10, s11, s12, s13, s14, s15, s16, s17, s18, s19, s20, (.slice sp11 7 cap11), rfl, hbw, (fun h => c0 (bit_ne h (by decide))), (fun h => c1 (bit_ne h (by decide))), (fun h => c2 (bit_ne h (by decide))), (fun h h2 => c3 (bit_ne h (by decide)) (bit_ne h2 (by decide))), (fun h => c4 (bit_ne h (by decide))), (fun h => c5 (bit_ne h (by decide))), (fun h h2 => c6 (bit_ne h (by decide)) (bit_ne h2 (by decide))), (fun h => c7 (bit_ne h (by decide))), (fun h => c8 (bit_ne h (by decide))), (fun h => c9 (bit_ne h (by decide))), (fun h h2 => c10 (bit_ne h (by decide)) (bit_ne h2 (by decide))), (fun _ h2 => absurd (bit_on hsz) (by rw [h2]; decide)), (fun _ => ⟨sp11, cap11, rfl, o11⟩), (fun h h2 h3 h4 => d10_3 (bit_ne h (by decide)) (bit_ne h2 (by decide)) (bit_ne h3 (by decide)) (bit_ne h4 (by decide)))⟩
      · intro listed a w hall hJ
        obtain ⟨s4, s10, s11, s12, s13, s14, s15, s16, s17, s18, s19, s20, s21, rfl, hbW, c0, c1, c2, c3, c4, c5, c6, c7, c8, c9, c10, c11, c12, d10_3⟩ := hJ
        obtain rfl := c0 (hall 0 (by decide))
        obtain rfl := c1 (hall 1 (by decide))
        obtain rfl := c2 (hall 2 (by decide))
        obtain rfl := c4 (hall 4 (by decide))
        obtain rfl := c5 (hall 5 (by decide))
        obtain rfl := c7 (hall 7 (by decide))
        obtain rfl := c8 (hall 8 (by decide))
        obtain rfl := c9 (hall 9 (by decide))
        obtain ⟨sp12, cap12, rfl, o12⟩ := c12 (hall 12 (by decide))
        have r3 := hrow.below hbW hgB
        have bb := b2.trans (hbW.mono (Nat.le_of_lt hBg))
        have hBs := hsB hbW
        have hby := (hr' _ r3).top
        simp only at hby
        clear hbW hc0 hc1 hc2 c0 c1 c2 c3 c4 c5 c7 c8 c9 hall hrow b2
        generalize w = w3 at *
        go_wp2_with (at_builtin; (refine append8g (.tmp 22) (.tmp 24) 27 5 (by rfl) (by rfl) B Try.underlying27 info5 (.slice sp12 7 cap12) ([105, 1] ++ n4 s ++ [lv]) (by rfl) ?ho (some ⟨g0, 3, none⟩) 32 32 tp (by rfl) ht ?hnil ?hby ?hlen ?hB ?_; (case ho => exact o12); (case hnil => exact (fun h => by cases h)); (case hby => exact hby); (case hlen => omega); (case hB => exact hBs); rw [← henc, hlen]; clear henc; intro sp5 cap5 w5 o5 b5 g5))
        go_ret2
        exact ⟨sp5, cap5, by rw [hlen]; rfl, by rw [hlen]; exact o5.mono (Nat.le_of_lt hBg), bb.trans (b5.mono (Nat.le_of_lt hBg))⟩
    · have hX6 : ([105, 2] ++ n4 s).length = 6 := rfl
      have hX7 : ([105, 2] ++ n4 s ++ [lv]).length = 7 := rfl
      refine region_invFA  (by kernel_rfl) (by kernel_rfl) (fun a0 listed a w => ∃ s4 s10 s11 s12 s13 s14 s15 s16 s17 s18 s19 s20 s21, a = (Act.put (Act.put (Act.put (Act.put (Act.put (Act.put (Act.put (Act.put (Act.put (Act.put (Act.put (Act.put (Act.put a0 (some 4) s4) (some 10) s10) (some 11) s11) (some 12) s12) (some 13) s13) (some 14) s14) (some 15) s15) (some 16) s16) (some 17) s17) (some 18) s18) (some 19) s19) (some 20) s20) (some 21) s21) ∧ Below B w2 w ∧ (listed.getD 0 false = true → s10 = .pointer (some ⟨g0, 0, none⟩)) ∧ (listed.getD 1 false = true → s11 = .int .i64 2) ∧ (listed.getD 2 false = true → s12 = .int .u8 2) ∧ (listed.getD 3 false = true → listed.getD 6 false = false → OwnS w B s13 2 [105, 2]) ∧ (listed.getD 4 false = true → s14 = .pointer (some ⟨g0, 1, none⟩)) ∧ (listed.getD 5 false = true → s15 = .int .i64 s) ∧ (listed.getD 6 false = true → listed.getD 11 false = false → OwnS w B s16 6 ([105, 2] ++ n4 s)) ∧ (listed.getD 7 false = true → s17 = .pointer (some ⟨g0, 2, none⟩)) ∧ (listed.getD 8 false = true → s18 = .int .i64 lv) ∧ (listed.getD 9 false = true → s19 = .int .u8 lv) ∧ (listed.getD 10 false = true → listed.getD 11 false = false → LitS w B s20 1 [lv]) ∧ (listed.getD 11 false = true → listed.getD 12 false = false → OwnS w B s21 7 ([105, 2] ++ n4 s ++ [lv])) ∧ (listed.getD 12 false = true → OwnS w B s4 7 ([105, 2] ++ n4 s ++ [lv])) ∧ (listed.getD 10 false = true → listed.getD 11 false = false → listed.getD 3 false = true → listed.getD 6 false = false → s20.ownBlock ≠ s13.ownBlock)) ?_ ?_ ?_
      all_goals simp only [Act.put, List.setIfInBounds_toArray, List.set_cons_succ, List.set_cons_zero]
      · exact ⟨_, _, _, _, _, _, _, _, _, _, _, _, _, rfl, (Below.refl B _).drew, (fun h => absurd h (by rw [getD_replicate_false]; decide)), (fun h => absurd h (by rw [getD_replicate_false]; decide)), (fun h => absurd h (by rw [getD_replicate_false]; decide)), (fun h => absurd h (by rw [getD_replicate_false]; decide)), (fun h => absurd h (by rw [getD_replicate_false]; decide)), (fun h => absurd h (by rw [getD_replicate_false]; decide)), (fun h => absurd h (by rw [getD_replicate_false]; decide)), (fun h => absurd h (by rw [getD_replicate_false]; decide)), (fun h => absurd h (by rw [getD_replicate_false]; decide)), (fun h => absurd h (by rw [getD_replicate_false]; decide)), (fun h => absurd h (by rw [getD_replicate_false]; decide)), (fun h => absurd h (by rw [getD_replicate_false]; decide)), (fun h => absurd h (by rw [getD_replicate_false]; decide)), (fun h => absurd h (by rw [getD_replicate_false]; decide))⟩
      · intro listed a w i o hls hJ hin ho hi hall hcl
        obtain ⟨s4, s10, s11, s12, s13, s14, s15, s16, s17, s18, s19, s20, s21, rfl, hbW, c0, c1, c2, c3, c4, c5, c6, c7, c8, c9, c10, c11, c12, d10_3⟩ := hJ
        replace hin : i < 13 := hin
        rcases (by omega : i = 0 ∨ i = 1 ∨ i = 2 ∨ i = 3 ∨ i = 4 ∨ i = 5 ∨ i = 6 ∨ i = 7 ∨ i = 8 ∨ i = 9 ∨ i = 10 ∨ i = 11 ∨ i = 12) with rfl | rfl | rfl | rfl | rfl | rfl | rfl | rfl | rfl | rfl | rfl | rfl | rfl
        · obtain rfl := Option.some.inj ho
          have hsz : 0 < listed.size := by rw [hls]; decide
          have hbw := hbW
          refine inv_val (w' := w) (.pointer (some ⟨g0, 0, none⟩)) rfl rfl (by kernel_rfl) ?_
          exact ⟨s4, (.pointer (some ⟨g0, 0, none⟩)), s11, s12, s13, s14, s15, s16, s17, s18, s19, s20, s21, rfl, hbw, (fun _ => rfl), (fun h => c1 (bit_ne h (by decide))), (fun h => c2 (bit_ne h (by decide))), (fun h h2 => c3 (bit_ne h (by decide)) (bit_ne h2 (by decide))), (fun h => c4 (bit_ne h (by decide))), (fun h => c5 (bit_ne h (by decide))), (fun h h2 => c6 (bit_ne h (by decide)) (bit_ne h2 (by decide))), (fun h => c7 (bit_ne h (by decide))), (fun h => c8 (bit_ne h (by decide))), (fun h => c9 (bit_ne h (by decide))), (fun h h2 => c10 (bit_ne h (by decide)) (bit_ne h2 (by decide))), (fun h h2 => c11 (bit_ne h (by decide)) (bit_ne h2 (by decide))), (fun h => c12 (bit_ne h (by decide))), (fun h h2 h3 h4 => d10_3 (bit_ne h (by decide)) (bit_ne h2 (by decide)) (bit_ne h3 (by decide)) (bit_ne h4 (by decide)))⟩
        · obtain rfl := Option.some.inj ho
          have hsz : 1 < listed.size := by rw [hls]; decide
          have hdep0 : listed.getD 0 false = true := hall ⟨0, .data⟩ (by simp) (by rfl)
          obtain rfl := c0 hdep0
          have hbw := hbW
          refine inv_val (w' := w) (.int .i64 2) rfl rfl (by have hq := hc0 w hbW; go_simp) ?_
          exact ⟨s4, (.pointer (some ⟨g0, 0, none⟩)), (.int .i64 2), s12, s13, s14, s15, s16, s17, s18, s19, s20, s21, rfl, hbw, (fun h => c0 (bit_ne h (by decide))), (fun _ => rfl), (fun h => c2 (bit_ne h (by decide))), (fun h h2 => c3 (bit_ne h (by decide)) (bit_ne h2 (by decide))), (fun h => c4 (bit_ne h (by decide))), (fun h => c5 (bit_ne h (by decide))), (fun h h2 => c6 (bit_ne h (by decide)) (bit_ne h2 (by decide))), (fun h => c7 (bit_ne h (by decide))), (fun h => c8 (bit_ne h (by decide))), (fun h => c9 (bit_ne h (by decide))), (fun h h2 => c10 (bit_ne h (by decide)) (bit_ne h2 (by decide))), (fun h h2 => c11 (bit_ne h (by decide)) (bit_ne h2 (by decide))), (fun h => c12 (bit_ne h (by decide))), (fun h h2 h3 h4 => d10_3 (bit_ne h (by decide)) (bit_ne h2 (by decide)) (bit_ne h3 (by decide)) (bit_ne h4 (by decide)))⟩
        · obtain rfl := Option.some.inj ho
          have hsz : 2 < listed.size := by rw [hls]; decide
          have hdep1 : listed.getD 1 false = true := hall ⟨1, .data⟩ (by simp) (by rfl)
          obtain rfl := c1 hdep1
          have hbw := hbW
          refine inv_val (w' := w) (.int .u8 2) rfl rfl (by go_simp; rfl) ?_
          exact ⟨s4, s10, (.int .i64 2), (.int .u8 2), s13, s14, s15, s16, s17, s18, s19, s20, s21, rfl, hbw, (fun h => c0 (bit_ne h (by decide))), (fun h => c1 (bit_ne h (by decide))), (fun _ => rfl), (fun h h2 => c3 (bit_ne h (by decide)) (bit_ne h2 (by decide))), (fun h => c4 (bit_ne h (by decide))), (fun h => c5 (bit_ne h (by decide))), (fun h h2 => c6 (bit_ne h (by decide)) (bit_ne h2 (by decide))), (fun h => c7 (bit_ne h (by decide))), (fun h => c8 (bit_ne h (by decide))), (fun h => c9 (bit_ne h (by decide))), (fun h h2 => c10 (bit_ne h (by decide)) (bit_ne h2 (by decide))), (fun h h2 => c11 (bit_ne h (by decide)) (bit_ne h2 (by decide))), (fun h => c12 (bit_ne h (by decide))), (fun h h2 h3 h4 => d10_3 (bit_ne h (by decide)) (bit_ne h2 (by decide)) (bit_ne h3 (by decide)) (bit_ne h4 (by decide)))⟩
        · obtain rfl := Option.some.inj ho
          have hsz : 3 < listed.size := by rw [hls]; decide
          have hdep2 : listed.getD 2 false = true := hall ⟨2, .data⟩ (by simp) (by rfl)
          obtain rfl := c2 hdep2
          have hbw : Below B w2 (w.alloc (.cells (v8 [105, 2]) 5)) := hbW.alloc (hsB hbW) _
          refine inv_val (.slice (some ⟨w.heap.size, 0, none⟩) 2 2) (w' := w.alloc (.cells (v8 [105, 2]) 5)) rfl rfl (by kernel_rfl) ?_
          have me_d10_3 := fun (h : LitS w B s20 1 [lv]) => h.ne_new (m := 2)
          exact ⟨s4, s10, s11, (.int .u8 2), (.slice (some ⟨w.heap.size, 0, none⟩) 2 2), s14, s15, s16, s17, s18, s19, s20, s21, rfl, hbw, (fun h => c0 (bit_ne h (by decide))), (fun h => c1 (bit_ne h (by decide))), (fun h => c2 (bit_ne h (by decide))), (fun _ _ => OwnS.lit w B (hsB hbW) 2 [105, 2] (by rfl) (by omega)), (fun h => c4 (bit_ne h (by decide))), (fun h => c5 (bit_ne h (by decide))), (fun h h2 => (c6 (bit_ne h (by decide)) (bit_ne h2 (by decide))).alloc _), (fun h => c7 (bit_ne h (by decide))), (fun h => c8 (bit_ne h (by decide))), (fun h => c9 (bit_ne h (by decide))), (fun h h2 => (c10 (bit_ne h (by decide)) (bit_ne h2 (by decide))).alloc _), (fun h h2 => (c11 (bit_ne h (by decide)) (bit_ne h2 (by decide))).alloc _), (fun h => (c12 (bit_ne h (by decide))).alloc _), (fun h h2 _ _ => me_d10_3 (c10 (bit_ne h (by decide)) (bit_ne h2 (by decide))))⟩
        · obtain rfl := Option.some.inj ho
          have hsz : 4 < listed.size := by rw [hls]; decide
          have hbw := hbW
          refine inv_val (w' := w) (.pointer (some ⟨g0, 1, none⟩)) rfl rfl (by kernel_rfl) ?_
          exact ⟨s4, s10, s11, s12, s13, (.pointer (some ⟨g0, 1, none⟩)), s15, s16, s17, s18, s19, s20, s21, rfl, hbw, (fun h => c0 (bit_ne h (by decide))), (fun h => c1 (bit_ne h (by decide))), (fun h => c2 (bit_ne h (by decide))), (fun h h2 => c3 (bit_ne h (by decide)) (bit_ne h2 (by decide))), (fun _ => rfl), (fun h => c5 (bit_ne h (by decide))), (fun h h2 => c6 (bit_ne h (by decide)) (bit_ne h2 (by decide))), (fun h => c7 (bit_ne h (by decide))), (fun h => c8 (bit_ne h (by decide))), (fun h => c9 (bit_ne h (by decide))), (fun h h2 => c10 (bit_ne h (by decide)) (bit_ne h2 (by decide))), (fun h h2 => c11 (bit_ne h (by decide)) (bit_ne h2 (by decide))), (fun h => c12 (bit_ne h (by decide))), (fun h h2 h3 h4 => d10_3 (bit_ne h (by decide)) (bit_ne h2 (by decide)) (bit_ne h3 (by decide)) (bit_ne h4 (by decide)))⟩
        · obtain rfl := Option.some.inj ho
          have hsz : 5 < listed.size := by rw [hls]; decide
          have hdep4 : listed.getD 4 false = true := hall ⟨4, .data⟩ (by simp) (by rfl)
          obtain rfl := c4 hdep4
          have hbw := hbW
          refine inv_val (w' := w) (.int .i64 s) rfl rfl (by have hq := hc1 w hbW; go_simp) ?_
          exact ⟨s4, s10, s11, s12, s13, (.pointer (some ⟨g0, 1, none⟩)), (.int .i64 s), s16, s17, s18, s19, s20, s21, rfl, hbw, (fun h => c0 (bit_ne h (by decide))), (fun h => c1 (bit_ne h (by decide))), (fun h => c2 (bit_ne h (by decide))), (fun h h2 => c3 (bit_ne h (by decide)) (bit_ne h2 (by decide))), (fun h => c4 (bit_ne h (by decide))), (fun _ => rfl), (fun h h2 => c6 (bit_ne h (by decide)) (bit_ne h2 (by decide))), (fun h => c7 (bit_ne h (by decide))), (fun h => c8 (bit_ne h (by decide))), (fun h => c9 (bit_ne h (by decide))), (fun h h2 => c10 (bit_ne h (by decide)) (bit_ne h2 (by decide))), (fun h h2 => c11 (bit_ne h (by decide)) (bit_ne h2 (by decide))), (fun h => c12 (bit_ne h (by decide))), (fun h h2 h3 h4 => d10_3 (bit_ne h (by decide)) (bit_ne h2 (by decide)) (bit_ne h3 (by decide)) (bit_ne h4 (by decide)))⟩
        · obtain rfl := Option.some.inj ho
          have hsz : 6 < listed.size := by rw [hls]; decide
          have hdep3 : listed.getD 3 false = true := hall ⟨3, .data⟩ (by simp) (by rfl)
          obtain ⟨sp3, cap3, rfl, o3⟩ := c3 hdep3 hi
          have hdep5 : listed.getD 5 false = true := hall ⟨5, .data⟩ (by simp) (by rfl)
          obtain rfl := c5 hdep5
          refine inv_call 34 #[.slice sp3 2 cap3, .int .i64 s] _ rfl rfl (by kernel_rfl) (rfour_any [105, 2] s _ w B o3 (by simp) (hsB hbW)) ?_
          rintro e w' ⟨sp, cap, rfl, ow, hb', hg, _⟩
          have hbw : Below B w2 w' := hbW.trans hb'
          have hown := o3
          refine ⟨_, rfl, ?_⟩
          exact ⟨s4, s10, s11, s12, (.slice sp3 2 cap3), s14, (.int .i64 s), _, s17, s18, s19, s20, s21, rfl, hbw, (fun h => c0 (bit_ne h (by decide))), (fun h => c1 (bit_ne h (by decide))), (fun h => c2 (bit_ne h (by decide))), (fun _ h2 => absurd (bit_on hsz) (by rw [h2]; decide)), (fun h => c4 (bit_ne h (by decide))), (fun h => c5 (bit_ne h (by decide))), (fun _ _ => ⟨sp, cap, rfl, ow⟩), (fun h => c7 (bit_ne h (by decide))), (fun h => c8 (bit_ne h (by decide))), (fun h => c9 (bit_ne h (by decide))), (fun h h2 => (c10 (bit_ne h (by decide)) (bit_ne h2 (by decide))).grew hg (d10_3 (bit_ne h (by decide)) (bit_ne h2 (by decide)) hdep3 hi)), (fun h _ => absurd (hcl 11 _ rfl (bit_ne h (by decide)) ⟨6, .data⟩ (by simp) rfl) (by rw [hi]; decide)), (fun h => absurd (hcl 11 _ rfl (hcl 12 _ rfl (bit_ne h (by decide)) ⟨11, .data⟩ (by simp) rfl) ⟨6, .data⟩ (by simp) rfl) (by rw [hi]; decide)), (fun _ _ _ h4 => absurd (bit_on hsz) (by rw [h4]; decide))⟩
        · obtain rfl := Option.some.inj ho
          have hsz : 7 < listed.size := by rw [hls]; decide
          have hbw := hbW
          refine inv_val (w' := w) (.pointer (some ⟨g0, 2, none⟩)) rfl rfl (by kernel_rfl) ?_
          exact ⟨s4, s10, s11, s12, s13, s14, s15, s16, (.pointer (some ⟨g0, 2, none⟩)), s18, s19, s20, s21, rfl, hbw, (fun h => c0 (bit_ne h (by decide))), (fun h => c1 (bit_ne h (by decide))), (fun h => c2 (bit_ne h (by decide))), (fun h h2 => c3 (bit_ne h (by decide)) (bit_ne h2 (by decide))), (fun h => c4 (bit_ne h (by decide))), (fun h => c5 (bit_ne h (by decide))), (fun h h2 => c6 (bit_ne h (by decide)) (bit_ne h2 (by decide))), (fun _ => rfl), (fun h => c8 (bit_ne h (by decide))), (fun h => c9 (bit_ne h (by decide))), (fun h h2 => c10 (bit_ne h (by decide)) (bit_ne h2 (by decide))), (fun h h2 => c11 (bit_ne h (by decide)) (bit_ne h2 (by decide))), (fun h => c12 (bit_ne h (by decide))), (fun h h2 h3 h4 => d10_3 (bit_ne h (by decide)) (bit_ne h2 (by decide)) (bit_ne h3 (by decide)) (bit_ne h4 (by decide)))⟩
        · obtain rfl := Option.some.inj ho
          have hsz : 8 < listed.size := by rw [hls]; decide
          have hdep7 : listed.getD 7 false = true := hall ⟨7, .data⟩ (by simp) (by rfl)
          obtain rfl := c7 hdep7
          have hbw := hbW
          refine inv_val (w' := w) (.int .i64 lv) rfl rfl (by have hq := hc2 w hbW; go_simp) ?_
          exact ⟨s4, s10, s11, s12, s13, s14, s15, s16, (.pointer (some ⟨g0, 2, none⟩)), (.int .i64 lv), s19, s20, s21, rfl, hbw, (fun h => c0 (bit_ne h (by decide))), (fun h => c1 (bit_ne h (by decide))), (fun h => c2 (bit_ne h (by decide))), (fun h h2 => c3 (bit_ne h (by decide)) (bit_ne h2 (by decide))), (fun h => c4 (bit_ne h (by decide))), (fun h => c5 (bit_ne h (by decide))), (fun h h2 => c6 (bit_ne h (by decide)) (bit_ne h2 (by decide))), (fun h => c7 (bit_ne h (by decide))), (fun _ => rfl), (fun h => c9 (bit_ne h (by decide))), (fun h h2 => c10 (bit_ne h (by decide)) (bit_ne h2 (by decide))), (fun h h2 => c11 (bit_ne h (by decide)) (bit_ne h2 (by decide))), (fun h => c12 (bit_ne h (by decide))), (fun h h2 h3 h4 => d10_3 (bit_ne h (by decide)) (bit_ne h2 (by decide)) (bit_ne h3 (by decide)) (bit_ne h4 (by decide)))⟩
        · obtain rfl := Option.some.inj ho
          have hsz : 9 < listed.size := by rw [hls]; decide
          have hdep8 : listed.getD 8 false = true := hall ⟨8, .data⟩ (by simp) (by rfl)
          obtain rfl := c8 hdep8
          have hbw := hbW
          refine inv_val (w' := w) (.int .u8 lv) rfl rfl (by go_simp; exact wrap8 hlr) ?_
          exact ⟨s4, s10, s11, s12, s13, s14, s15, s16, s17, (.int .i64 lv), (.int .u8 lv), s20, s21, rfl, hbw, (fun h => c0 (bit_ne h (by decide))), (fun h => c1 (bit_ne h (by decide))), (fun h => c2 (bit_ne h (by decide))), (fun h h2 => c3 (bit_ne h (by decide)) (bit_ne h2 (by decide))), (fun h => c4 (bit_ne h (by decide))), (fun h => c5 (bit_ne h (by decide))), (fun h h2 => c6 (bit_ne h (by decide)) (bit_ne h2 (by decide))), (fun h => c7 (bit_ne h (by decide))), (fun h => c8 (bit_ne h (by decide))), (fun _ => rfl), (fun h h2 => c10 (bit_ne h (by decide)) (bit_ne h2 (by decide))), (fun h h2 => c11 (bit_ne h (by decide)) (bit_ne h2 (by decide))), (fun h => c12 (bit_ne h (by decide))), (fun h h2 h3 h4 => d10_3 (bit_ne h (by decide)) (bit_ne h2 (by decide)) (bit_ne h3 (by decide)) (bit_ne h4 (by decide)))⟩
        · obtain rfl := Option.some.inj ho
          have hsz : 10 < listed.size := by rw [hls]; decide
          have hdep9 : listed.getD 9 false = true := hall ⟨9, .data⟩ (by simp) (by rfl)
          obtain rfl := c9 hdep9
          have hbw : Below B w2 (w.alloc (.cells (v8 [lv]) 5)) := hbW.alloc (hsB hbW) _
          refine inv_val (.slice (some ⟨w.heap.size, 0, none⟩) 1 1) (w' := w.alloc (.cells (v8 [lv]) 5)) rfl rfl (by kernel_rfl) ?_
          exact ⟨s4, s10, s11, s12, s13, s14, s15, s16, s17, s18, (.int .u8 lv), (.slice (some ⟨w.heap.size, 0, none⟩) 1 1), s21, rfl, hbw, (fun h => c0 (bit_ne h (by decide))), (fun h => c1 (bit_ne h (by decide))), (fun h => c2 (bit_ne h (by decide))), (fun h h2 => (c3 (bit_ne h (by decide)) (bit_ne h2 (by decide))).alloc _), (fun h => c4 (bit_ne h (by decide))), (fun h => c5 (bit_ne h (by decide))), (fun h h2 => (c6 (bit_ne h (by decide)) (bit_ne h2 (by decide))).alloc _), (fun h => c7 (bit_ne h (by decide))), (fun h => c8 (bit_ne h (by decide))), (fun h => c9 (bit_ne h (by decide))), (fun _ _ => LitS.new w B (hsB hbW) 1 [lv] (by rfl)), (fun h h2 => (c11 (bit_ne h (by decide)) (bit_ne h2 (by decide))).alloc _), (fun h => (c12 (bit_ne h (by decide))).alloc _), (fun _ _ h3 h4 => litNew (c3 (bit_ne h3 (by decide)) (bit_ne h4 (by decide))))⟩
        · obtain rfl := Option.some.inj ho
          have hsz : 11 < listed.size := by rw [hls]; decide
          have hdep6 : listed.getD 6 false = true := hall ⟨6, .data⟩ (by simp) (by rfl)
          obtain ⟨sp6, cap6, rfl, o6⟩ := c6 hdep6 hi
          have hdep10 : listed.getD 10 false = true := hall ⟨10, .data⟩ (by simp) (by rfl)
          obtain ⟨b10, rfl, r10, hb10⟩ := c10 hdep10 hi
          refine inv_op rfl rfl (wp8g (.tmp 16) (.tmp 20) 27 5 rfl B Try.underlying27 info5 _ ([105, 2] ++ n4 s) rfl o6 (some ⟨b10, 0, none⟩) 1 1 [lv] rfl rfl (fun h => by cases h) r10.bytes (by first | omega | simp | (simp; omega)) (hsB hbW) ?_)
          intro sp cap w' ow hb' hgg
          have hg := Grew.of hgg
          have hbw : Below B w2 w' := hbW.trans hb'
          have hown := o6
          rw [hX7] at ow ⊢
          exact ⟨s4, s10, s11, s12, s13, s14, s15, (.slice sp6 6 cap6), s17, s18, s19, (.slice (some ⟨b10, 0, none⟩) 1 1), (.slice sp 7 cap), rfl, hbw, (fun h => c0 (bit_ne h (by decide))), (fun h => c1 (bit_ne h (by decide))), (fun h => c2 (bit_ne h (by decide))), (fun _ h2 => absurd hdep6 (by rw [bit_ne h2 (by decide)]; decide)), (fun h => c4 (bit_ne h (by decide))), (fun h => c5 (bit_ne h (by decide))), (fun _ h2 => absurd (bit_on hsz) (by rw [h2]; decide)), (fun h => c7 (bit_ne h (by decide))), (fun h => c8 (bit_ne h (by decide))), (fun h => c9 (bit_ne h (by decide))), (fun _ h2 => absurd (bit_on hsz) (by rw [h2]; decide)), (fun _ _ => ⟨sp, cap, rfl, ow⟩), (fun h => absurd (hcl 12 _ rfl (bit_ne h (by decide)) ⟨11, .data⟩ (by simp) rfl) (by rw [hi]; decide)), (fun _ h2 _ _ => absurd (bit_on hsz) (by rw [h2]; decide))⟩
        · obtain rfl := Option.some.inj ho
          have hsz : 12 < listed.size := by rw [hls]; decide
          have hdep11 : listed.getD 11 false = true := hall ⟨11, .data⟩ (by simp) (by rfl)
          obtain ⟨sp11, cap11, rfl, o11⟩ := c11 hdep11 hi
          have hbw := hbW
          refine inv_val (w' := w) (.slice sp11 7 cap11) rfl rfl rfl ?_
          exact ⟨(.slice sp11 7 cap11), s10, s11, s12, s13, s14, s15, s16, s17, s18, s19, s20, (.slice sp11 7 cap11), rfl, hbw, (fun h => c0 (bit_ne h (by decide))), (fun h => c1 (bit_ne h (by decide))), (fun h => c2 (bit_ne h (by decide))), (fun h h2 => c3 (bit_ne h (by decide)) (bit_ne h2 (by decide))), (fun h => c4 (bit_ne h (by decide))), (fun h => c5 (bit_ne h (by decide))), (fun h h2 => c6 (bit_ne h (by decide)) (bit_ne h2 (by decide))), (fun h => c7 (bit_ne h (by decide))), (fun h => c8 (bit_ne h (by decide))), (fun h => c9 (bit_ne h (by decide))), (fun h h2 => c10 (bit_ne h (by decide)) (bit_ne h2 (by decide))), (fun _ h2 => absurd (bit_on hsz) (by rw [h2]; decide)), (fun _ => ⟨sp11, cap11, rfl, o11⟩), (fun h h2 h3 h4 => d10_3 (bit_ne h (by decide)) (bit_ne h2 (by decide)) (bit_ne h3 (by decide)) (bit_ne h4 (by decide)))⟩
      · intro listed a w hall hJ
        obtain ⟨s4, s10, s11, s12, s13, s14, s15, s16, s17, s18, s19, s20, s21, rfl, hbW, c0, c1, c2, c3, c4, c5, c6, c7, c8, c9, c10, c11, c12, d10_3⟩ := hJ
        obtain rfl := c0 (hall 0 (by decide))
        obtain rfl := c1 (hall 1 (by decide))
        obtain rfl := c2 (hall 2 (by decide))
        obtain rfl := c4 (hall 4 (by decide))
        obtain rfl := c5 (hall 5 (by decide))
        obtain rfl := c7 (hall 7 (by decide))
        obtain rfl := c8 (hall 8 (by decide))
        obtain rfl := c9 (hall 9 (by decide))
        obtain ⟨sp12, cap12, rfl, o12⟩ := c12 (hall 12 (by decide))
        have r3 := hrow.below hbW hgB
        have bb := b2.trans (hbW.mono (Nat.le_of_lt hBg))
        have hBs := hsB hbW
        have hby := (hr' _ r3).top
        simp only at hby
        clear hbW hc0 hc1 hc2 c0 c1 c2 c3 c4 c5 c7 c8 c9 hall hrow b2
        generalize w = w3 at *
        go_wp2_with (at_builtin; (refine append8g (.tmp 22) (.tmp 24) 27 5 (by rfl) (by rfl) B Try.underlying27 info5 (.slice sp12 7 cap12) ([105, 2] ++ n4 s ++ [lv]) (by rfl) ?ho (some ⟨g0, 3, none⟩) 32 32 tp (by rfl) ht ?hnil ?hby ?hlen ?hB ?_; (case ho => exact o12); (case hnil => exact (fun h => by cases h)); (case hby => exact hby); (case hlen => omega); (case hB => exact hBs); rw [← henc, hlen]; clear henc; intro sp5 cap5 w5 o5 b5 g5))
        go_ret2
        exact ⟨sp5, cap5, by rw [hlen]; rfl, by rw [hlen]; exact o5.mono (Nat.le_of_lt hBg), bb.trans (b5.mono (Nat.le_of_lt hBg))⟩
  · have hne : (E != 0) = true := by simpa using hE0
    obtain rfl := hbad hE0
    clear hE hE2 hok0 henc
    go_wp2_with (first | (refine wpList_load_row (by rfl) 25 (.tmp 1) (by rfl) w0.heap.size (by rfl) 25 N (0, 0) _ hrow Try.underlying25 rfl hi25 ?_) | (refine wpList_load_row (by rfl) 25 (.tmp 1) (by rfl) w0.heap.size (by rfl) 25 N (0, 0) _ hrow2 Try.underlying25 rfl hi25 ?_) | (go_at_call 33; (with_reducible refine Calls.mono (hwr _) ?_); rintro e w3 ⟨rfl, hb3⟩; have b3 := b2.trans (hb3.mono b2.size)) | (go_at_call 33; (with_reducible refine Calls.mono (hwr _) ?_); rintro e w2 ⟨rfl, hb2⟩; have hrow2 : Row w2 w0.heap.size 25 N := hrow.below hb2 hrow.lt; have b2 := hb.trans (hb2.mono hb.size)))
    go_ret2
    exact ⟨none, 0, rfl, own8_none _ _, b3⟩
end Go.Proofs.Ytgcffdnbihfghaa
