/- The reference's public key. No old memory turns. -/
import Derived.Test.YtoebnkepeledmaaDoorRefE
namespace Go.Proofs.YtoebnkepeledmaaDoor
open Go Go.RowKit

theorem Own8.setRowOther {w : World} {B g : Nat} {e : TypeId} {v : Value} {l : List Int} (h : Own8 w B e v l) (ha : some g ≠ v.ownBlock) (cs : Array Value) : Own8 (w.setRow g cs) B e v l := by
  obtain ⟨hl, h⟩ := h
  refine ⟨hl, ?_⟩
  rcases h with h | ⟨g', cap, cur, hv, hg, hh, r⟩
  · exact .inl h
  · refine .inr ⟨g', cap, cur, hv, hg, ?_, r⟩
    rw [setRow_other w g g' cs (fun e1 => ha (by rw [hv, ← e1]; rfl))]
    exact hh

set_option maxRecDepth 20000 in
set_option maxHeartbeats 300000 in
theorem rPublic_any (S : List Int → List Int) (hS : Hash S) (nm seed : List Int) (q : Int) (w : World) (hn : nm.length = 16) (hs : seed.length = 32) :
    Calls Tryd.prog 16 #[.agg (v8 nm), .int .i64 q, .agg (v8 seed)] w fun e w' => e = .returned (.agg (v8 (pubL S (nm ++ n4 q) seed))) ∧ Below w.heap.size w w' := by
  have hH : (nm ++ n4 q).length = 20 := by rw [List.length_append, hn, n4_len]
  have hL22 : (nm ++ n4 q ++ [128, 128]).length = 22 := by rw [List.length_append, hH]; rfl
  have hx : ∀ (k : Nat) wx, k < 133 → Calls Tryd.prog 35 #[.agg (v8 nm), .int .i64 q, .int .i64 (k : Int), .agg (v8 seed)] wx fun e w' => e = .returned (.agg (v8 (xL S (nm ++ n4 q) seed k))) ∧ Below wx.heap.size wx w' := fun k wx hk =>
    rsecret_any S hS nm seed q k wx hn hs
  have hy : ∀ (k : Nat) wx, k < 133 → Calls Tryd.prog 34 #[.agg (v8 nm), .int .i64 q, .int .i64 (k : Int), .int .i64 0, .int .i64 3, .agg (v8 (xL S (nm ++ n4 q) seed k))] wx fun e w' => e = .returned (.agg (v8 (yL S (nm ++ n4 q) seed k))) ∧ Below wx.heap.size wx w' := fun k wx hk =>
    rwalk_any S hS nm (xL S (nm ++ n4 q) seed k) q k 0 3 wx hn (hS.len _) (by omega)
  have hyl : ∀ i, (yL S (nm ++ n4 q) seed i).length = 32 := yL_len (fun l => hS.len l) (nm ++ n4 q) seed
  have hpk : pubL S (nm ++ n4 q) seed = S (nm ++ n4 q ++ [128, 128] ++ catN (yL S (nm ++ n4 q) seed) 133) := rfl
  have hcl' : Hid (∀ k, (catN (yL S (nm ++ n4 q) seed) k).length = 32 * k) := catN_len hyl
  have hC0 : catN (yL S (nm ++ n4 q) seed) 0 = [] := rfl
  have hCs' : Hid (∀ k, catN (yL S (nm ++ n4 q) seed) (k + 1) = catN (yL S (nm ++ n4 q) seed) k ++ yL S (nm ++ n4 q) seed k) := fun _ => rfl
  generalize catN (yL S (nm ++ n4 q) seed) = C at *
  generalize yL S (nm ++ n4 q) seed = Y at *
  generalize xL S (nm ++ n4 q) seed = X at *
  have hpk' : Hid (pubL S (nm ++ n4 q) seed = S (nm ++ n4 q ++ [128, 128] ++ C 133)) := hpk
  clear hpk
  have hSl : (pubL S (nm ++ n4 q) seed).length = 32 := hS.len _
  generalize pubL S (nm ++ n4 q) seed = PK at *
  have z32 := zv32
  go_enter Tryd.func16, Tryd.ntmps16
  go_upto_region 1 with fail
  have r0 : Row (World.alloc (World.alloc (World.alloc w (.cells (v8 nm) 22)) (.cells (v8 seed) 24)) (.cells (v8 (zer 32)) 24)) w.heap.size 22 (v8 nm) := ((Row.new _ _ _).alloc _).alloc _
  have r1 : Row (World.alloc (World.alloc (World.alloc w (.cells (v8 nm) 22)) (.cells (v8 seed) 24)) (.cells (v8 (zer 32)) 24)) (w.heap.size + 1) 24 (v8 seed) := (Row.newAt _ _ _ _ (by simp)).alloc _
  have r2 : Row (World.alloc (World.alloc (World.alloc w (.cells (v8 nm) 22)) (.cells (v8 seed) 24)) (.cells (v8 (zer 32)) 24)) (w.heap.size + 2) 24 (v8 (zer 32)) := Row.newAt _ _ _ _ (by simp)
  have b1 : Below w.heap.size w (World.alloc (World.alloc (World.alloc w (.cells (v8 nm) 22)) (.cells (v8 seed) 24)) (.cells (v8 (zer 32)) 24)) := (((Below.refl _ _).alloc (Nat.le_refl _) _).alloc (by simp) _).alloc (by simp; omega) _
  change Code.wp _ _ _ _ ((World.alloc (World.alloc (World.alloc w (.cells (v8 nm) 22)) (.cells (v8 seed) 24)) (.cells (v8 (zer 32)) 24)))
  generalize (World.alloc (World.alloc (World.alloc w (.cells (v8 nm) 22)) (.cells (v8 seed) 24)) (.cells (v8 (zer 32)) 24)) = w1 at r0 r1 r2 b1 ⊢
  have hr2 := r2.lt
  obtain ⟨B, hB⟩ : ∃ B, B = w1.heap.size := ⟨_, rfl⟩
  have hBr : w.heap.size + 2 < B := by omega
  go_wp2_with (first | (refine wpList_load_row (by rfl) 22 (.tmp 3) (by rfl) w.heap.size (by rfl) 22 (v8 nm) (0, 0) _ r0 Tryd.underlying22 rfl (name_info hn) ?_) | (go_at_call 33; (with_reducible refine Calls.mono (rhead_any nm q _ hn) ?_); rintro e w3 ⟨sp3, cap3, rfl, o3, b3⟩; rw [← hB] at o3 b3; have hs3 := b3.size; rw [← hB] at hs3) | (at_builtin; (refine append8g (.tmp 12) (.tmp 13) 28 5 (by rfl) (by rfl) B Tryd.underlying28 info5 (.slice sp3 20 cap3) (nm ++ n4 q) (by rfl) ?ho (some ⟨w3.heap.size, 0, none⟩) 2 2 [128, 128] (by rfl) rfl ?hnil ?hby ?hlen ?hB ?_; (case ho => exact (o3.alloc _)); (case hnil => exact (fun h => by cases h)); (case hby => exact (bytes_lit w3 [128, 128])); (case hlen => first | omega | (simp; omega) | simp); (case hB => first | omega | (simp; omega) | simp); rw [hL22]; intro sp4 cap4 w4 o4 b4 _g4; have hs4 := b4.size; have c4 : Below B w1 w4 := (b3.alloc (by omega) _).trans b4; have hsB4 : B ≤ w4.heap.size := (by have := c4.size; omega))))
  have p0 := r0.below c4 (by omega)
  have p1 := r1.below c4 (by omega)
  have p2 := r2.below c4 (by omega)
  have pb := b1.trans (c4.mono (by omega))
  clear r0 r1 r2 b1 o3 b3 b4 _g4 hs3 hs4 c4 z32 hr2 hB
  generalize nm ++ n4 q ++ [128, 128] = X0 at *
  go_loopw [7, 8] (fun bv v wr => ∃ (k : Nat) (spk : Option Addr) (capk : Nat), k ≤ 133 ∧ bv = .slice spk (22 + 32 * k) capk ∧ v = .int .i64 (k : Int) ∧ Own8 wr B 5 (.slice spk (22 + 32 * k) capk) (X0 ++ C k) ∧ Row wr w.heap.size 22 (v8 nm) ∧ Row wr (w.heap.size + 1) 24 (v8 seed) ∧ Row wr (w.heap.size + 2) 24 (v8 (zer 32)) ∧ Below w.heap.size w wr ∧ B ≤ wr.heap.size) (fun _ v _ => 133 - (intOf v).toNat)
  case atStart => exact ⟨0, sp4, cap4, by omega, rfl, rfl, by simpa [hC0] using o4, p0, p1, p2, pb, hsB4⟩
  case round =>
    clear p0 p1 p2 pb o4 hsB4
    obtain ⟨k, spk, capk, hk, rfl, rfl, ok, z0, z1, z2, zb, hsz⟩ := hrel
    by_cases hlt : k < 133
    · have hCl := hcl'.out k
      have hYk := hyl k
      have hXk : (X0 ++ C k).length = 22 + 32 * k := by rw [List.length_append, hL22, hCl]
      have hXk1 : (X0 ++ C k ++ Y k).length = 22 + 32 * (k + 1) := by rw [List.length_append, hXk, hYk]; omega
      have hnx : Hid (X0 ++ C k ++ Y k = X0 ++ C (k + 1)) := by show _ = _; rw [hCs'.out k, List.append_assoc]
      go_upto_region 5 with fail
      refine region_alloc 9 24 (v8 (zer 32)) 9 (by kernel_rfl) (by kernel_rfl) (by rfl) (by kernel_rfl) ?hal ?hh
      case hal =>
        intro a w o ho
        cases ho
        kernel_rfl
      case hh =>
        apply Exists.intro
        refine ⟨fun ι _ W hb hc => ?_, fun b w2 hb2 hbel2 hrow => ?_⟩
        · have t0 : ∀ i, Row (W i) w.heap.size 22 (v8 nm) := fun i => z0.below (hb i) z0.lt
          have t1 : ∀ i, Row (W i) (w.heap.size + 1) 24 (v8 seed) := fun i => z1.below (hb i) z1.lt
          simp only [List.take_succ_cons, List.take_zero]
          refine q_load_row 22 (.tmp 3) (by rfl) (by rfl) (w.heap.size) (by rfl) 22 _ _ t0 Tryd.underlying22 rfl (name_info hn) ?_
          simp only [Act.put, List.setIfInBounds_toArray, List.set_cons_succ, List.set_cons_zero]
          go_big_quiet_step (fail)
          go_big_quiet_step (fail)
          refine q_load_row 22 (.tmp 3) (by rfl) (by rfl) (w.heap.size) (by rfl) 22 _ _ t0 Tryd.underlying22 rfl (name_info hn) ?_
          simp only [Act.put, List.setIfInBounds_toArray, List.set_cons_succ, List.set_cons_zero]
          go_big_quiet_step (fail)
          go_big_quiet_step (fail)
          refine q_load_row 24 (.tmp 5) (by rfl) (by rfl) (w.heap.size + 1) (by rfl) 24 _ _ t1 Tryd.underlying24 rfl (id_info hs) ?_
          simp only [Act.put, List.setIfInBounds_toArray, List.set_cons_succ, List.set_cons_zero]
          go_big_quiet_step ((go_at_call 35; exact (hx k _ hlt).mono (fun e w' ⟨he, hw⟩ => ⟨he, hc _ _ hw⟩)))
          go_big_quiet_step ((go_at_call 34; exact (hy k _ hlt).mono (fun e w' ⟨he, hw⟩ => ⟨he, hc _ _ hw⟩)))
          exact wpQuiet_nil rfl
        · simp only [List.drop_succ_cons, List.drop_zero, Act.put, List.setIfInBounds_toArray, List.set_cons_succ, List.set_cons_zero]
          refine store_row0 24 (.tmp 9) (.tmp 27) (by rfl) (by rfl) (by rfl) b (v8 (Y k)) (by rfl) (by rfl) 24 _ hrow (id_info hYk) (by rw [v8_size, v8_size, hYk, zer_len]) (v8_one _) ?_
          have hsw := hbel2.size
          have y0 := (z0.below hbel2 z0.lt).setRowOther (g := b) (by omega) (v8 (Y k))
          have y1 := (z1.below hbel2 z1.lt).setRowOther (g := b) (by omega) (v8 (Y k))
          have y2 := (z2.below hbel2 z2.lt).setRowOther (g := b) (by omega) (v8 (Y k))
          have y4 := hrow.setRow (v8 (Y k))
          have y5 := (ok.below hbel2 (Nat.le_refl _)).setRowOther (g := b) (own_lt ok hb2) (v8 (Y k))
          have yb := below_setRow (g := b) (zb.trans (hbel2.mono zb.size)) (by omega) (v8 (Y k))
          have hys : B ≤ (w2.setRow b (v8 (Y k))).heap.size := by have := (below_setRow (g := b) (Below.refl b w2) (Nat.le_refl _) (v8 (Y k))).size; omega
          generalize w2.setRow b (v8 (Y k)) = w3 at y0 y1 y2 y4 y5 yb hys ⊢
          clear z0 z1 z2 zb hbel2 hrow ok
          go_wp2_with (at_builtin; (refine append8g (.tmp 28) (.tmp 29) 28 5 (by rfl) (by rfl) B Tryd.underlying28 info5 (.slice spk (22 + 32 * k) capk) (X0 ++ C k) (by rfl) ?ho (some ⟨b, 0, none⟩) 32 32 (Y k) (by rfl) hYk ?hnil ?hby ?hlen ?hB ?_; (case ho => exact y5); (case hnil => exact (fun h => by cases h)); (case hby => exact y4.bytes); (case hlen => first | omega | (simp; omega) | simp); (case hB => first | omega | (simp; omega) | simp); rw [hXk1]; intro sp7 cap7 w7 o7 b7 _g7; have hs7 := b7.size))
          have hbB : w.heap.size + 2 < B := hBr
          go_roundw
          case rel => exact ⟨k + 1, sp7, cap7, by omega, rfl, by go_num, by rw [← hnx.out]; exact o7, y0.below b7 (by omega), y1.below b7 (by omega), y2.below b7 (by omega), yb.trans (b7.mono (by omega)), by omega⟩
          case measure => simp [intOf]; omega
    · obtain rfl : k = 133 := by omega
      have hCl := hcl'.out 133
      have hpo := hpk'.out
      have hXl : (X0 ++ C 133).length = 22 + 32 * 133 := by rw [List.length_append, hL22, hCl]
      have hnil := own_nil ok (by rw [hXl]; omega)
      have hrs := hS.rsum (X0 ++ C 133) spk (22 + 32 * 133) capk wr hXl (by omega) hnil ok.bytes
      rw [← hpo] at hrs
      clear hpo
      generalize C 133 = E at *
      have hz2 := z2.lt
      simp only [show 22 + 32 * 133 = 4278 from rfl] at hrs ⊢
      go_wp2_with (first | (go_at_call 36; (with_reducible refine Calls.mono hrs ?_); rintro e w8 ⟨rfl, hb8⟩) | (refine store_row0 24 (.tmp 6) (.tmp 32) (by rfl) (by rfl) (by rfl) (w.heap.size + 2) (v8 PK) (by rfl) (by rfl) 24 _ (z2.below hb8 (by omega)) (id_info hSl) (by rw [v8_size, v8_size, hSl, zer_len]) (v8_one _) ?_))
      exact bodyPost_ret (results_cell_row Tryd.results16 _ _ (w.heap.size + 2) 24 (v8 PK) (0, 0) _ rfl ((z2.below hb8 (by omega)).setRow _) Tryd.underlying24 rfl (id_info hSl)) rfl ⟨rfl, below_setRow (zb.trans (hb8.mono zb.size)) (by omega) _⟩
end Go.Proofs.YtoebnkepeledmaaDoor
