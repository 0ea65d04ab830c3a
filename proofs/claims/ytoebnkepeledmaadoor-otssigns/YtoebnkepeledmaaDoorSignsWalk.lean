/- OtsSigns returns true and turns no old memory, for any name, number, seed and text. -/
import Derived.Test.YtoebnkepeledmaaDoorClaims2
import Derived.Test.YtoebnkepeledmaaDoorRefG
import Derived.Test.YtoebnkepeledmaaDoorOtsH
import Derived.Test.YtoebnkepeledmaaDoorKnown5
namespace Go.Proofs.YtoebnkepeledmaaDoor
open Go Go.RowKit

set_option maxRecDepth 20000 in
set_option maxHeartbeats 1500000 in
theorem signs_early (S : List Int → List Int) (hS : Hash S) (nm seed : List Int) (q : Int) (mp : Option Addr) (ml mc : Nat) (w0 : World) (hL : Laid w0) (h : 500 < ml) :
    Calls Tryd.prog 4 #[.agg (v8 nm), .int .i64 q, .agg (v8 seed), .slice mp ml mc] w0 fun e w' => e = .returned (.bool true) ∧ Below w0.heap.size w0 w' := by
  have hK : ∀ wx, Laid wx → Calls Tryd.prog 14 #[] wx fun e w' => e = .returned (.bool true) ∧ Below wx.heap.size wx w' := fun wx hl => known5_any S hS wx hl
  have hm1 : (500 : Int) < (ml : Int) := by omega
  go_enter Tryd.func4, Tryd.ntmps4
  go_upto_region 1 with fail
  have b1 : Below w0.heap.size w0 (World.alloc (World.alloc w0 (.cells (v8 nm) 22)) (.cells (v8 seed) 24)) := ((Below.refl _ _).alloc (Nat.le_refl _) _).alloc (by simp) _
  change Code.wp _ _ _ _ ((World.alloc (World.alloc w0 (.cells (v8 nm) 22)) (.cells (v8 seed) 24)))
  generalize (World.alloc (World.alloc w0 (.cells (v8 nm) 22)) (.cells (v8 seed) 24)) = w1 at b1 ⊢
  go_wp2_with (go_at_call 14; (with_reducible refine Calls.mono (hK _ (hL.below b1)) ?_); rintro e w2 ⟨rfl, hb2⟩)
  go_ret
  exact ⟨rfl, b1.trans (hb2.mono b1.size)⟩

set_option maxRecDepth 20000 in
set_option maxHeartbeats 1500000 in
theorem signs_main (S : List Int → List Int) (hS : Hash S) (nm seed msg : List Int) (q : Int) (mp : Option Addr) (ml mc : Nat) (w0 : World) (hL : Laid w0) (hn : nm.length = 16) (hs : seed.length = 32) (hml : msg.length = ml) (hmn : mp = none → mc = 0 ∧ ml = 0) (hmm : ml ≤ 500) (hmb : Bytes w0 mp msg) :
    Calls Tryd.prog 4 #[.agg (v8 nm), .int .i64 q, .agg (v8 seed), .slice mp ml mc] w0 fun e w' => e = .returned (.bool true) ∧ Below w0.heap.size w0 w' := by
  have hK : ∀ wx, Laid wx → Calls Tryd.prog 14 #[] wx fun e w' => e = .returned (.bool true) ∧ Below wx.heap.size wx w' := fun wx hl => known5_any S hS wx hl
  have hR : ∀ wx, Calls Tryd.prog 16 #[.agg (v8 nm), .int .i64 q, .agg (v8 seed)] wx fun e w' => e = .returned (.agg (v8 (pubL S (nm ++ n4 q) seed))) ∧ Below wx.heap.size wx w' := fun wx => rPublic_any S hS nm seed q wx hn hs
  have hRS : ∀ wx, Bytes wx mp msg → Calls Tryd.prog 19 #[.agg (v8 nm), .int .i64 q, .agg (v8 seed), .slice mp ml mc] wx fun e w' => ∃ sp cap, e = .returned (.slice sp 4292 cap) ∧ Own8 w' wx.heap.size 5 (.slice sp 4292 cap) (sigL S (nm ++ n4 q) seed msg) ∧ Below wx.heap.size wx w' := fun wx hb => rSign_any S hS nm seed msg q mp ml mc wx hn hs hml hmn (by omega) hb
  have hSi : ∀ wx, Laid wx → Bytes wx mp msg → Calls Tryd.prog 17 #[.agg (v8 nm), .int .i64 q, .agg (v8 seed), .slice mp ml mc] wx fun e w' => ∃ g, e = .returned (.slice (some ⟨g, 0, none⟩) 4292 4292) ∧ wx.heap.size ≤ g ∧ Row w' g 5 (v8 (sigL S (nm ++ n4 q) seed msg)) ∧ Below wx.heap.size wx w' := fun wx hl hb => Sign_any S hS nm seed msg q mp ml mc wx hl hn hs hml (by omega) hb
  have hSGl : (sigL S (nm ++ n4 q) seed msg).length = 4292 := sigL_len (fun l => hS.len l) _ _ _
  have hSGt4 := sigL_type S (nm ++ n4 q) seed msg
  have hbs := back_sig (S := S) (fun l => hS.len l) (nm ++ n4 q) seed msg
  have hok0 : ∀ g wx, Laid wx → Bytes wx mp msg → Bytes wx (some ⟨g, 0, none⟩) (sigL S (nm ++ n4 q) seed msg) → Calls Tryd.prog 18 #[.agg (v8 nm), .int .i64 q, .slice mp ml mc, .slice (some ⟨g, 0, none⟩) 4292 4292] wx fun e w' => e = .returned (.tuple #[.agg (v8 (pubL S (nm ++ n4 q) seed)), .int .i64 0]) ∧ Below wx.heap.size wx w' := fun g wx hl h1 h2 => by
    have := Back_ok S hS msg nm (sigL S (nm ++ n4 q) seed msg) q mp (some ⟨g, 0, none⟩) ml mc 4292 4292 wx hl hn hml (by omega) h1 hSGl (Nat.le_refl _) h2 rfl hSGt4
    rwa [hbs] at this
  have hPKl : (pubL S (nm ++ n4 q) seed).length = 32 := hS.len _
  clear hSGt4 hbs
  generalize sigL S (nm ++ n4 q) seed msg = SG at *
  generalize pubL S (nm ++ n4 q) seed = PK at *
  have hm1 : ¬ (500 : Int) < (ml : Int) := by omega
  have hm2 : decide ((500 : Int) < (ml : Int)) = false := by simpa using hm1
  have z32 := zv32
  go_enter Tryd.func4, Tryd.ntmps4
  go_upto_region 1 with fail
  have r0 : Row (World.alloc (World.alloc w0 (.cells (v8 nm) 22)) (.cells (v8 seed) 24)) w0.heap.size 22 (v8 nm) := (Row.new _ _ _).alloc _
  have r1 : Row (World.alloc (World.alloc w0 (.cells (v8 nm) 22)) (.cells (v8 seed) 24)) (w0.heap.size + 1) 24 (v8 seed) := Row.newAt _ _ _ _ (by simp)
  have b1 : Below w0.heap.size w0 (World.alloc (World.alloc w0 (.cells (v8 nm) 22)) (.cells (v8 seed) 24)) := ((Below.refl _ _).alloc (Nat.le_refl _) _).alloc (by simp) _
  change Code.wp _ _ _ _ ((World.alloc (World.alloc w0 (.cells (v8 nm) 22)) (.cells (v8 seed) 24)))
  generalize (World.alloc (World.alloc w0 (.cells (v8 nm) 22)) (.cells (v8 seed) 24)) = w1 at r0 r1 b1 ⊢
  go_upto_region 6 with (first | (go_at_call 14; (with_reducible refine Calls.mono (hK _ (hL.below b1)) ?_); rintro e w2 ⟨rfl, hb2⟩; have p0 := r0.below hb2 r0.lt; have p1 := r1.below hb2 r1.lt; have pb := b1.trans (hb2.mono b1.size); have hp1 := p1.lt) | (refine wpList_load_row (by rfl) 22 (.tmp 4) (by rfl) w0.heap.size (by rfl) 22 (v8 nm) (0, 0) _ p0 Tryd.underlying22 rfl (name_info hn) ?_) | (refine wpList_load_row (by rfl) 24 (.tmp 6) (by rfl) (w0.heap.size + 1) (by rfl) 24 (v8 seed) (0, 0) _ p1 Tryd.underlying24 rfl (id_info hs) ?_) | (go_at_call 17; (with_reducible refine Calls.mono (hSi _ (hL.below pb) (hmb.below pb)) ?_); rintro e w3 ⟨g, rfl, hg, y2, hb3⟩))
  have y0 := p0.below hb3 (by omega)
  have y1 := p1.below hb3 (by omega)
  have yb := pb.trans (hb3.mono pb.size)
  have hgg : w0.heap.size + 1 < g := by omega
  clear r0 r1 b1 hb2 p0 p1 pb hb3 hK hSi hp1 hg
  have hB3 := hok0 g w3 (hL.below yb) (hmb.below yb) y2.bytes
  clear hok0
  have hy2 := y2.lt
  go_upto_region 7 with (first | (refine wpList_load_row (by rfl) 22 (.tmp 4) (by rfl) w0.heap.size (by rfl) 22 (v8 nm) (0, 0) _ y0 Tryd.underlying22 rfl (name_info hn) ?_) | (go_at_call 18; (with_reducible refine Calls.mono hB3 ?_); rintro e w6 ⟨rfl, hb6⟩) | (refine store_row0 24 (.tmp 10) (.tmp 28) (by rfl) (by rfl) (by rfl) w6.heap.size (v8 PK) (by rfl) (by rfl) 24 (v8 (zer 32)) (Row.new w6 24 _) (id_info hPKl) (by rw [v8_size, v8_size, hPKl, zer_len]) (v8_one _) ?_))
  have hs6 := hb6.size
  have x0 := ((y0.below hb6 (by omega)).alloc (.cells (v8 (zer 32)) 24)).setRowOther (g := w6.heap.size) (by omega) (v8 PK)
  have x1 := ((y1.below hb6 (by omega)).alloc (.cells (v8 (zer 32)) 24)).setRowOther (g := w6.heap.size) (by omega) (v8 PK)
  have x2 := ((y2.below hb6 (by omega)).alloc (.cells (v8 (zer 32)) 24)).setRowOther (g := w6.heap.size) (by omega) (v8 PK)
  have x3 := (Row.new w6 24 (v8 (zer 32))).setRow (v8 PK)
  have xb : Below w0.heap.size w0 ((w6.alloc (.cells (v8 (zer 32)) 24)).setRow w6.heap.size (v8 PK)) := below_setRow ((yb.trans (hb6.mono yb.size)).alloc (by have := yb.size; omega) _) (by have := yb.size; omega) _
  obtain ⟨gk, hgk⟩ : ∃ gk, gk = w6.heap.size := ⟨_, rfl⟩
  have hgk2 : g < gk ∧ w0.heap.size + 1 < gk := by omega
  change Code.wp _ _ _ _ ((w6.alloc (.cells (v8 (zer 32)) 24)).setRow w6.heap.size (v8 PK))
  rw [← hgk] at x0 x1 x2 x3 xb ⊢
  generalize (w6.alloc (.cells (v8 (zer 32)) 24)).setRow gk (v8 PK) = w4 at x0 x1 x2 x3 xb ⊢
  clear hgk y0 y1 y2 yb hb6 hs6 hB3 hy2
  have hx3 := x3.lt
  obtain ⟨B, hB⟩ : ∃ B, B = w4.heap.size := ⟨_, rfl⟩
  have hsB : ∀ {w : World}, Below B w4 w → B ≤ w.heap.size := fun h => by have := h.size; omega
  refine region_invFA  (by kernel_rfl) (by kernel_rfl) (fun a0 listed a w => ∃ s8 s30 s31 s32 s33 s34 s35 s36 s37 s38 s39 s40 s41 s42 s43 s44 s45 s46 s47 s48 s49 s50, a = (Act.put (Act.put (Act.put (Act.put (Act.put (Act.put (Act.put (Act.put (Act.put (Act.put (Act.put (Act.put (Act.put (Act.put (Act.put (Act.put (Act.put (Act.put (Act.put (Act.put (Act.put (Act.put a0 (some 8) s8) (some 30) s30) (some 31) s31) (some 32) s32) (some 33) s33) (some 34) s34) (some 35) s35) (some 36) s36) (some 37) s37) (some 38) s38) (some 39) s39) (some 40) s40) (some 41) s41) (some 42) s42) (some 43) s43) (some 44) s44) (some 45) s45) (some 46) s46) (some 47) s47) (some 48) s48) (some 49) s49) (some 50) s50) ∧ Below B w4 w ∧ (listed.getD 0 false = true → s30 = .slice (some ⟨g, 0, none⟩) 4292 4292) ∧ (listed.getD 1 false = true → s31 = .string (strOfNums SG)) ∧ (listed.getD 2 false = true → s32 = .agg (v8 nm)) ∧ (listed.getD 3 false = true → s33 = .int .i64 q) ∧ (listed.getD 4 false = true → s34 = .agg (v8 seed)) ∧ (listed.getD 5 false = true → s35 = .slice mp ml mc) ∧ (listed.getD 6 false = true → listed.getD 7 false = false → OwnS w B s36 4292 SG) ∧ (listed.getD 7 false = true → s37 = .string (strOfNums SG)) ∧ (listed.getD 8 false = true → s38 = .bool true) ∧ (listed.getD 9 false = true → s39 = .bool true) ∧ (listed.getD 10 false = true → s40 = .int .i64 0) ∧ (listed.getD 11 false = true → s41 = .bool true) ∧ (listed.getD 12 false = true → s42 = .bool true) ∧ (listed.getD 13 false = true → s43 = .bool true) ∧ (listed.getD 14 false = true → s44 = .agg (v8 PK)) ∧ (listed.getD 15 false = true → s45 = .agg (v8 nm)) ∧ (listed.getD 16 false = true → s46 = .int .i64 q) ∧ (listed.getD 17 false = true → s47 = .agg (v8 seed)) ∧ (listed.getD 18 false = true → s48 = .agg (v8 PK)) ∧ (listed.getD 19 false = true → s49 = .bool true) ∧ (listed.getD 20 false = true → s50 = .bool true) ∧ (listed.getD 21 false = true → s8 = .bool true)) ?_ ?_ ?_
  all_goals simp only [Act.put, List.setIfInBounds_toArray, List.set_cons_succ, List.set_cons_zero]
  · exact ⟨.bool false, undef, undef, undef, undef, undef, undef, undef, undef, undef, undef, undef, undef, undef, undef, undef, undef, undef, undef, undef, undef, undef, rfl, (Below.refl B _).drew, (fun h => by rw [getD_replicate_false] at h; cases h), (fun h => by rw [getD_replicate_false] at h; cases h), (fun h => by rw [getD_replicate_false] at h; cases h), (fun h => by rw [getD_replicate_false] at h; cases h), (fun h => by rw [getD_replicate_false] at h; cases h), (fun h => by rw [getD_replicate_false] at h; cases h), (fun h => by rw [getD_replicate_false] at h; cases h), (fun h => by rw [getD_replicate_false] at h; cases h), (fun h => by rw [getD_replicate_false] at h; cases h), (fun h => by rw [getD_replicate_false] at h; cases h), (fun h => by rw [getD_replicate_false] at h; cases h), (fun h => by rw [getD_replicate_false] at h; cases h), (fun h => by rw [getD_replicate_false] at h; cases h), (fun h => by rw [getD_replicate_false] at h; cases h), (fun h => by rw [getD_replicate_false] at h; cases h), (fun h => by rw [getD_replicate_false] at h; cases h), (fun h => by rw [getD_replicate_false] at h; cases h), (fun h => by rw [getD_replicate_false] at h; cases h), (fun h => by rw [getD_replicate_false] at h; cases h), (fun h => by rw [getD_replicate_false] at h; cases h), (fun h => by rw [getD_replicate_false] at h; cases h), (fun h => by rw [getD_replicate_false] at h; cases h)⟩
  · intro listed a w i o hls hJ hin ho hi hall hcl
    obtain ⟨s8, s30, s31, s32, s33, s34, s35, s36, s37, s38, s39, s40, s41, s42, s43, s44, s45, s46, s47, s48, s49, s50, rfl, hbW, c0, c1, c2, c3, c4, c5, c6, c7, c8, c9, c10, c11, c12, c13, c14, c15, c16, c17, c18, c19, c20, c21⟩ := hJ
    replace hin : i < 22 := hin
    rcases (by omega : i = 0 ∨ i = 1 ∨ i = 2 ∨ i = 3 ∨ i = 4 ∨ i = 5 ∨ i = 6 ∨ i = 7 ∨ i = 8 ∨ i = 9 ∨ i = 10 ∨ i = 11 ∨ i = 12 ∨ i = 13 ∨ i = 14 ∨ i = 15 ∨ i = 16 ∨ i = 17 ∨ i = 18 ∨ i = 19 ∨ i = 20 ∨ i = 21) with rfl | rfl | rfl | rfl | rfl | rfl | rfl | rfl | rfl | rfl | rfl | rfl | rfl | rfl | rfl | rfl | rfl | rfl | rfl | rfl | rfl | rfl
    · obtain rfl := Option.some.inj ho
      have hsz : 0 < listed.size := by rw [hls]; decide
      have hbw := hbW
      refine inv_val (w' := w) (.slice (some ⟨g, 0, none⟩) 4292 4292) rfl rfl rfl ?_
      exact ⟨s8, (.slice (some ⟨g, 0, none⟩) 4292 4292), s31, s32, s33, s34, s35, s36, s37, s38, s39, s40, s41, s42, s43, s44, s45, s46, s47, s48, s49, s50, rfl, hbw, (fun _ => rfl), (fun h => c1 (bit_ne h (by decide))), (fun h => c2 (bit_ne h (by decide))), (fun h => c3 (bit_ne h (by decide))), (fun h => c4 (bit_ne h (by decide))), (fun h => c5 (bit_ne h (by decide))), (fun h h2 => c6 (bit_ne h (by decide)) (bit_ne h2 (by decide))), (fun h => c7 (bit_ne h (by decide))), (fun h => c8 (bit_ne h (by decide))), (fun h => c9 (bit_ne h (by decide))), (fun h => c10 (bit_ne h (by decide))), (fun h => c11 (bit_ne h (by decide))), (fun h => c12 (bit_ne h (by decide))), (fun h => c13 (bit_ne h (by decide))), (fun h => c14 (bit_ne h (by decide))), (fun h => c15 (bit_ne h (by decide))), (fun h => c16 (bit_ne h (by decide))), (fun h => c17 (bit_ne h (by decide))), (fun h => c18 (bit_ne h (by decide))), (fun h => c19 (bit_ne h (by decide))), (fun h => c20 (bit_ne h (by decide))), (fun h => c21 (bit_ne h (by decide)))⟩
    · obtain rfl := Option.some.inj ho
      have hsz : 1 < listed.size := by rw [hls]; decide
      have hdep0 : listed.getD 0 false = true := hall ⟨0, .data⟩ (by simp) (by rfl)
      obtain rfl := c0 hdep0
      have hbw := hbW
      refine inv_val (w' := w) (.string (strOfNums SG)) rfl rfl (exec_convert8 (.tmp 30) rfl _ _ _ SG rfl hSGl (by omega) (x2.below hbW (by omega)).bytes) ?_
      exact ⟨s8, (.slice (some ⟨g, 0, none⟩) 4292 4292), (.string (strOfNums SG)), s32, s33, s34, s35, s36, s37, s38, s39, s40, s41, s42, s43, s44, s45, s46, s47, s48, s49, s50, rfl, hbw, (fun h => c0 (bit_ne h (by decide))), (fun _ => rfl), (fun h => c2 (bit_ne h (by decide))), (fun h => c3 (bit_ne h (by decide))), (fun h => c4 (bit_ne h (by decide))), (fun h => c5 (bit_ne h (by decide))), (fun h h2 => c6 (bit_ne h (by decide)) (bit_ne h2 (by decide))), (fun h => c7 (bit_ne h (by decide))), (fun h => c8 (bit_ne h (by decide))), (fun h => c9 (bit_ne h (by decide))), (fun h => c10 (bit_ne h (by decide))), (fun h => c11 (bit_ne h (by decide))), (fun h => c12 (bit_ne h (by decide))), (fun h => c13 (bit_ne h (by decide))), (fun h => c14 (bit_ne h (by decide))), (fun h => c15 (bit_ne h (by decide))), (fun h => c16 (bit_ne h (by decide))), (fun h => c17 (bit_ne h (by decide))), (fun h => c18 (bit_ne h (by decide))), (fun h => c19 (bit_ne h (by decide))), (fun h => c20 (bit_ne h (by decide))), (fun h => c21 (bit_ne h (by decide)))⟩
    · obtain rfl := Option.some.inj ho
      have hsz : 2 < listed.size := by rw [hls]; decide
      have hbw := hbW
      refine inv_val (w' := w) (.agg (v8 nm)) rfl rfl (exec_load_row 22 (.tmp 4) rfl w0.heap.size rfl 22 _ _ (x0.below hbW (by omega)) Tryd.underlying22 rfl (name_info hn)) ?_
      exact ⟨s8, s30, s31, (.agg (v8 nm)), s33, s34, s35, s36, s37, s38, s39, s40, s41, s42, s43, s44, s45, s46, s47, s48, s49, s50, rfl, hbw, (fun h => c0 (bit_ne h (by decide))), (fun h => c1 (bit_ne h (by decide))), (fun _ => rfl), (fun h => c3 (bit_ne h (by decide))), (fun h => c4 (bit_ne h (by decide))), (fun h => c5 (bit_ne h (by decide))), (fun h h2 => c6 (bit_ne h (by decide)) (bit_ne h2 (by decide))), (fun h => c7 (bit_ne h (by decide))), (fun h => c8 (bit_ne h (by decide))), (fun h => c9 (bit_ne h (by decide))), (fun h => c10 (bit_ne h (by decide))), (fun h => c11 (bit_ne h (by decide))), (fun h => c12 (bit_ne h (by decide))), (fun h => c13 (bit_ne h (by decide))), (fun h => c14 (bit_ne h (by decide))), (fun h => c15 (bit_ne h (by decide))), (fun h => c16 (bit_ne h (by decide))), (fun h => c17 (bit_ne h (by decide))), (fun h => c18 (bit_ne h (by decide))), (fun h => c19 (bit_ne h (by decide))), (fun h => c20 (bit_ne h (by decide))), (fun h => c21 (bit_ne h (by decide)))⟩
    · obtain rfl := Option.some.inj ho
      have hsz : 3 < listed.size := by rw [hls]; decide
      have hbw := hbW
      refine inv_val (w' := w) (.int .i64 q) rfl rfl rfl ?_
      exact ⟨s8, s30, s31, s32, (.int .i64 q), s34, s35, s36, s37, s38, s39, s40, s41, s42, s43, s44, s45, s46, s47, s48, s49, s50, rfl, hbw, (fun h => c0 (bit_ne h (by decide))), (fun h => c1 (bit_ne h (by decide))), (fun h => c2 (bit_ne h (by decide))), (fun _ => rfl), (fun h => c4 (bit_ne h (by decide))), (fun h => c5 (bit_ne h (by decide))), (fun h h2 => c6 (bit_ne h (by decide)) (bit_ne h2 (by decide))), (fun h => c7 (bit_ne h (by decide))), (fun h => c8 (bit_ne h (by decide))), (fun h => c9 (bit_ne h (by decide))), (fun h => c10 (bit_ne h (by decide))), (fun h => c11 (bit_ne h (by decide))), (fun h => c12 (bit_ne h (by decide))), (fun h => c13 (bit_ne h (by decide))), (fun h => c14 (bit_ne h (by decide))), (fun h => c15 (bit_ne h (by decide))), (fun h => c16 (bit_ne h (by decide))), (fun h => c17 (bit_ne h (by decide))), (fun h => c18 (bit_ne h (by decide))), (fun h => c19 (bit_ne h (by decide))), (fun h => c20 (bit_ne h (by decide))), (fun h => c21 (bit_ne h (by decide)))⟩
    · obtain rfl := Option.some.inj ho
      have hsz : 4 < listed.size := by rw [hls]; decide
      have hbw := hbW
      refine inv_val (w' := w) (.agg (v8 seed)) rfl rfl (exec_load_row 24 (.tmp 6) rfl (w0.heap.size + 1) rfl 24 _ _ (x1.below hbW (by omega)) Tryd.underlying24 rfl (id_info hs)) ?_
      exact ⟨s8, s30, s31, s32, s33, (.agg (v8 seed)), s35, s36, s37, s38, s39, s40, s41, s42, s43, s44, s45, s46, s47, s48, s49, s50, rfl, hbw, (fun h => c0 (bit_ne h (by decide))), (fun h => c1 (bit_ne h (by decide))), (fun h => c2 (bit_ne h (by decide))), (fun h => c3 (bit_ne h (by decide))), (fun _ => rfl), (fun h => c5 (bit_ne h (by decide))), (fun h h2 => c6 (bit_ne h (by decide)) (bit_ne h2 (by decide))), (fun h => c7 (bit_ne h (by decide))), (fun h => c8 (bit_ne h (by decide))), (fun h => c9 (bit_ne h (by decide))), (fun h => c10 (bit_ne h (by decide))), (fun h => c11 (bit_ne h (by decide))), (fun h => c12 (bit_ne h (by decide))), (fun h => c13 (bit_ne h (by decide))), (fun h => c14 (bit_ne h (by decide))), (fun h => c15 (bit_ne h (by decide))), (fun h => c16 (bit_ne h (by decide))), (fun h => c17 (bit_ne h (by decide))), (fun h => c18 (bit_ne h (by decide))), (fun h => c19 (bit_ne h (by decide))), (fun h => c20 (bit_ne h (by decide))), (fun h => c21 (bit_ne h (by decide)))⟩
    · obtain rfl := Option.some.inj ho
      have hsz : 5 < listed.size := by rw [hls]; decide
      have hbw := hbW
      refine inv_val (w' := w) (.slice mp ml mc) rfl rfl rfl ?_
      exact ⟨s8, s30, s31, s32, s33, s34, (.slice mp ml mc), s36, s37, s38, s39, s40, s41, s42, s43, s44, s45, s46, s47, s48, s49, s50, rfl, hbw, (fun h => c0 (bit_ne h (by decide))), (fun h => c1 (bit_ne h (by decide))), (fun h => c2 (bit_ne h (by decide))), (fun h => c3 (bit_ne h (by decide))), (fun h => c4 (bit_ne h (by decide))), (fun _ => rfl), (fun h h2 => c6 (bit_ne h (by decide)) (bit_ne h2 (by decide))), (fun h => c7 (bit_ne h (by decide))), (fun h => c8 (bit_ne h (by decide))), (fun h => c9 (bit_ne h (by decide))), (fun h => c10 (bit_ne h (by decide))), (fun h => c11 (bit_ne h (by decide))), (fun h => c12 (bit_ne h (by decide))), (fun h => c13 (bit_ne h (by decide))), (fun h => c14 (bit_ne h (by decide))), (fun h => c15 (bit_ne h (by decide))), (fun h => c16 (bit_ne h (by decide))), (fun h => c17 (bit_ne h (by decide))), (fun h => c18 (bit_ne h (by decide))), (fun h => c19 (bit_ne h (by decide))), (fun h => c20 (bit_ne h (by decide))), (fun h => c21 (bit_ne h (by decide)))⟩
    · obtain rfl := Option.some.inj ho
      have hsz : 6 < listed.size := by rw [hls]; decide
      have hdep2 : listed.getD 2 false = true := hall ⟨2, .data⟩ (by simp) (by rfl)
      obtain rfl := c2 hdep2
      have hdep3 : listed.getD 3 false = true := hall ⟨3, .data⟩ (by simp) (by rfl)
      obtain rfl := c3 hdep3
      have hdep4 : listed.getD 4 false = true := hall ⟨4, .data⟩ (by simp) (by rfl)
      obtain rfl := c4 hdep4
      have hdep5 : listed.getD 5 false = true := hall ⟨5, .data⟩ (by simp) (by rfl)
      obtain rfl := c5 hdep5
      refine inv_call 19 #[.agg (v8 nm), .int .i64 q, .agg (v8 seed), .slice mp ml mc] _ rfl rfl (by kernel_rfl) (hRS w (hmb.below (xb.trans (hbW.mono (by have := xb.size; omega))))) ?_
      rintro e w' ⟨sp, cap, rfl, ow, hb⟩
      have hbw : Below B w4 w' := hbW.trans (hb.mono (hsB hbW))
      refine ⟨_, rfl, ?_⟩
      exact ⟨s8, s30, s31, (.agg (v8 nm)), (.int .i64 q), (.agg (v8 seed)), (.slice mp ml mc), (.slice sp 4292 cap), s37, s38, s39, s40, s41, s42, s43, s44, s45, s46, s47, s48, s49, s50, rfl, hbw, (fun h => c0 (bit_ne h (by decide))), (fun h => c1 (bit_ne h (by decide))), (fun h => c2 (bit_ne h (by decide))), (fun h => c3 (bit_ne h (by decide))), (fun h => c4 (bit_ne h (by decide))), (fun h => c5 (bit_ne h (by decide))), (fun _ _ => ⟨sp, cap, rfl, ow.mono (hsB hbW)⟩), (fun h => c7 (bit_ne h (by decide))), (fun h => c8 (bit_ne h (by decide))), (fun h => c9 (bit_ne h (by decide))), (fun h => c10 (bit_ne h (by decide))), (fun h => c11 (bit_ne h (by decide))), (fun h => c12 (bit_ne h (by decide))), (fun h => c13 (bit_ne h (by decide))), (fun h => c14 (bit_ne h (by decide))), (fun h => c15 (bit_ne h (by decide))), (fun h => c16 (bit_ne h (by decide))), (fun h => c17 (bit_ne h (by decide))), (fun h => c18 (bit_ne h (by decide))), (fun h => c19 (bit_ne h (by decide))), (fun h => c20 (bit_ne h (by decide))), (fun h => c21 (bit_ne h (by decide)))⟩
    · obtain rfl := Option.some.inj ho
      have hsz : 7 < listed.size := by rw [hls]; decide
      have hdep6 : listed.getD 6 false = true := hall ⟨6, .data⟩ (by simp) (by rfl)
      obtain ⟨sp6, cap6, rfl, o6⟩ := c6 hdep6 hi
      have hbw := hbW
      refine inv_val (w' := w) (.string (strOfNums SG)) rfl rfl (exec_convert8 (.tmp 36) rfl _ _ _ SG rfl hSGl (by omega) o6.bytes) ?_
      exact ⟨s8, s30, s31, s32, s33, s34, s35, (.slice sp6 4292 cap6), (.string (strOfNums SG)), s38, s39, s40, s41, s42, s43, s44, s45, s46, s47, s48, s49, s50, rfl, hbw, (fun h => c0 (bit_ne h (by decide))), (fun h => c1 (bit_ne h (by decide))), (fun h => c2 (bit_ne h (by decide))), (fun h => c3 (bit_ne h (by decide))), (fun h => c4 (bit_ne h (by decide))), (fun h => c5 (bit_ne h (by decide))), (fun _ h2 => absurd (bit_on hsz) (by rw [h2]; decide)), (fun _ => rfl), (fun h => c8 (bit_ne h (by decide))), (fun h => c9 (bit_ne h (by decide))), (fun h => c10 (bit_ne h (by decide))), (fun h => c11 (bit_ne h (by decide))), (fun h => c12 (bit_ne h (by decide))), (fun h => c13 (bit_ne h (by decide))), (fun h => c14 (bit_ne h (by decide))), (fun h => c15 (bit_ne h (by decide))), (fun h => c16 (bit_ne h (by decide))), (fun h => c17 (bit_ne h (by decide))), (fun h => c18 (bit_ne h (by decide))), (fun h => c19 (bit_ne h (by decide))), (fun h => c20 (bit_ne h (by decide))), (fun h => c21 (bit_ne h (by decide)))⟩
    · obtain rfl := Option.some.inj ho
      have hsz : 8 < listed.size := by rw [hls]; decide
      have hdep1 : listed.getD 1 false = true := hall ⟨1, .data⟩ (by simp) (by rfl)
      obtain rfl := c1 hdep1
      have hdep7 : listed.getD 7 false = true := hall ⟨7, .data⟩ (by simp) (by rfl)
      obtain rfl := c7 hdep7
      have hbw := hbW
      refine inv_val (w' := w) (.bool true) rfl rfl (exec_eql_str 9 9 (.tmp 31) (.tmp 37) rfl _ rfl rfl) ?_
      exact ⟨s8, s30, (.string (strOfNums SG)), s32, s33, s34, s35, s36, (.string (strOfNums SG)), (.bool true), s39, s40, s41, s42, s43, s44, s45, s46, s47, s48, s49, s50, rfl, hbw, (fun h => c0 (bit_ne h (by decide))), (fun h => c1 (bit_ne h (by decide))), (fun h => c2 (bit_ne h (by decide))), (fun h => c3 (bit_ne h (by decide))), (fun h => c4 (bit_ne h (by decide))), (fun h => c5 (bit_ne h (by decide))), (fun h h2 => c6 (bit_ne h (by decide)) (bit_ne h2 (by decide))), (fun h => c7 (bit_ne h (by decide))), (fun _ => rfl), (fun h => c9 (bit_ne h (by decide))), (fun h => c10 (bit_ne h (by decide))), (fun h => c11 (bit_ne h (by decide))), (fun h => c12 (bit_ne h (by decide))), (fun h => c13 (bit_ne h (by decide))), (fun h => c14 (bit_ne h (by decide))), (fun h => c15 (bit_ne h (by decide))), (fun h => c16 (bit_ne h (by decide))), (fun h => c17 (bit_ne h (by decide))), (fun h => c18 (bit_ne h (by decide))), (fun h => c19 (bit_ne h (by decide))), (fun h => c20 (bit_ne h (by decide))), (fun h => c21 (bit_ne h (by decide)))⟩
    · obtain rfl := Option.some.inj ho
      have hsz : 9 < listed.size := by rw [hls]; decide
      have hdep8 : listed.getD 8 false = true := hall ⟨8, .data⟩ (by simp) (by rfl)
      obtain rfl := c8 hdep8
      have hbw := hbW
      refine inv_val (w' := w) (.bool true) rfl rfl rfl ?_
      exact ⟨s8, s30, s31, s32, s33, s34, s35, s36, s37, (.bool true), (.bool true), s40, s41, s42, s43, s44, s45, s46, s47, s48, s49, s50, rfl, hbw, (fun h => c0 (bit_ne h (by decide))), (fun h => c1 (bit_ne h (by decide))), (fun h => c2 (bit_ne h (by decide))), (fun h => c3 (bit_ne h (by decide))), (fun h => c4 (bit_ne h (by decide))), (fun h => c5 (bit_ne h (by decide))), (fun h h2 => c6 (bit_ne h (by decide)) (bit_ne h2 (by decide))), (fun h => c7 (bit_ne h (by decide))), (fun h => c8 (bit_ne h (by decide))), (fun _ => rfl), (fun h => c10 (bit_ne h (by decide))), (fun h => c11 (bit_ne h (by decide))), (fun h => c12 (bit_ne h (by decide))), (fun h => c13 (bit_ne h (by decide))), (fun h => c14 (bit_ne h (by decide))), (fun h => c15 (bit_ne h (by decide))), (fun h => c16 (bit_ne h (by decide))), (fun h => c17 (bit_ne h (by decide))), (fun h => c18 (bit_ne h (by decide))), (fun h => c19 (bit_ne h (by decide))), (fun h => c20 (bit_ne h (by decide))), (fun h => c21 (bit_ne h (by decide)))⟩
    · obtain rfl := Option.some.inj ho
      have hsz : 10 < listed.size := by rw [hls]; decide
      have hdep9 : listed.getD 9 false = true := hall ⟨9, .guard⟩ (by simp) (by rfl)
      obtain rfl := c9 hdep9
      have hbw := hbW
      refine inv_valG (w' := w) (.int .i64 0) rfl (by kernel_rfl) rfl ?_
      exact ⟨s8, s30, s31, s32, s33, s34, s35, s36, s37, s38, (.bool true), (.int .i64 0), s41, s42, s43, s44, s45, s46, s47, s48, s49, s50, rfl, hbw, (fun h => c0 (bit_ne h (by decide))), (fun h => c1 (bit_ne h (by decide))), (fun h => c2 (bit_ne h (by decide))), (fun h => c3 (bit_ne h (by decide))), (fun h => c4 (bit_ne h (by decide))), (fun h => c5 (bit_ne h (by decide))), (fun h h2 => c6 (bit_ne h (by decide)) (bit_ne h2 (by decide))), (fun h => c7 (bit_ne h (by decide))), (fun h => c8 (bit_ne h (by decide))), (fun h => c9 (bit_ne h (by decide))), (fun _ => rfl), (fun h => c11 (bit_ne h (by decide))), (fun h => c12 (bit_ne h (by decide))), (fun h => c13 (bit_ne h (by decide))), (fun h => c14 (bit_ne h (by decide))), (fun h => c15 (bit_ne h (by decide))), (fun h => c16 (bit_ne h (by decide))), (fun h => c17 (bit_ne h (by decide))), (fun h => c18 (bit_ne h (by decide))), (fun h => c19 (bit_ne h (by decide))), (fun h => c20 (bit_ne h (by decide))), (fun h => c21 (bit_ne h (by decide)))⟩
    · obtain rfl := Option.some.inj ho
      have hsz : 11 < listed.size := by rw [hls]; decide
      have hdep10 : listed.getD 10 false = true := hall ⟨10, .data⟩ (by simp) (by rfl)
      obtain rfl := c10 hdep10
      have hdep9 : listed.getD 9 false = true := hall ⟨9, .guard⟩ (by simp) (by rfl)
      obtain rfl := c9 hdep9
      have hbw := hbW
      refine inv_valG (w' := w) (.bool true) rfl (by kernel_rfl) (by kernel_rfl) ?_
      exact ⟨s8, s30, s31, s32, s33, s34, s35, s36, s37, s38, (.bool true), (.int .i64 0), (.bool true), s42, s43, s44, s45, s46, s47, s48, s49, s50, rfl, hbw, (fun h => c0 (bit_ne h (by decide))), (fun h => c1 (bit_ne h (by decide))), (fun h => c2 (bit_ne h (by decide))), (fun h => c3 (bit_ne h (by decide))), (fun h => c4 (bit_ne h (by decide))), (fun h => c5 (bit_ne h (by decide))), (fun h h2 => c6 (bit_ne h (by decide)) (bit_ne h2 (by decide))), (fun h => c7 (bit_ne h (by decide))), (fun h => c8 (bit_ne h (by decide))), (fun h => c9 (bit_ne h (by decide))), (fun h => c10 (bit_ne h (by decide))), (fun _ => rfl), (fun h => c12 (bit_ne h (by decide))), (fun h => c13 (bit_ne h (by decide))), (fun h => c14 (bit_ne h (by decide))), (fun h => c15 (bit_ne h (by decide))), (fun h => c16 (bit_ne h (by decide))), (fun h => c17 (bit_ne h (by decide))), (fun h => c18 (bit_ne h (by decide))), (fun h => c19 (bit_ne h (by decide))), (fun h => c20 (bit_ne h (by decide))), (fun h => c21 (bit_ne h (by decide)))⟩
    · obtain rfl := Option.some.inj ho
      have hsz : 12 < listed.size := by rw [hls]; decide
      have hdep9 : listed.getD 9 false = true := hall ⟨9, .data⟩ (by simp) (by rfl)
      obtain rfl := c9 hdep9
      have hdep11 : listed.getD 11 false = true := hall ⟨11, .data⟩ (by simp) (by rfl)
      obtain rfl := c11 hdep11
      have hbw := hbW
      refine inv_val (w' := w) (.bool true) rfl rfl (by kernel_rfl) ?_
      exact ⟨s8, s30, s31, s32, s33, s34, s35, s36, s37, s38, (.bool true), s40, (.bool true), (.bool true), s43, s44, s45, s46, s47, s48, s49, s50, rfl, hbw, (fun h => c0 (bit_ne h (by decide))), (fun h => c1 (bit_ne h (by decide))), (fun h => c2 (bit_ne h (by decide))), (fun h => c3 (bit_ne h (by decide))), (fun h => c4 (bit_ne h (by decide))), (fun h => c5 (bit_ne h (by decide))), (fun h h2 => c6 (bit_ne h (by decide)) (bit_ne h2 (by decide))), (fun h => c7 (bit_ne h (by decide))), (fun h => c8 (bit_ne h (by decide))), (fun h => c9 (bit_ne h (by decide))), (fun h => c10 (bit_ne h (by decide))), (fun h => c11 (bit_ne h (by decide))), (fun _ => rfl), (fun h => c13 (bit_ne h (by decide))), (fun h => c14 (bit_ne h (by decide))), (fun h => c15 (bit_ne h (by decide))), (fun h => c16 (bit_ne h (by decide))), (fun h => c17 (bit_ne h (by decide))), (fun h => c18 (bit_ne h (by decide))), (fun h => c19 (bit_ne h (by decide))), (fun h => c20 (bit_ne h (by decide))), (fun h => c21 (bit_ne h (by decide)))⟩
    · obtain rfl := Option.some.inj ho
      have hsz : 13 < listed.size := by rw [hls]; decide
      have hdep12 : listed.getD 12 false = true := hall ⟨12, .data⟩ (by simp) (by rfl)
      obtain rfl := c12 hdep12
      have hbw := hbW
      refine inv_val (w' := w) (.bool true) rfl rfl rfl ?_
      exact ⟨s8, s30, s31, s32, s33, s34, s35, s36, s37, s38, s39, s40, s41, (.bool true), (.bool true), s44, s45, s46, s47, s48, s49, s50, rfl, hbw, (fun h => c0 (bit_ne h (by decide))), (fun h => c1 (bit_ne h (by decide))), (fun h => c2 (bit_ne h (by decide))), (fun h => c3 (bit_ne h (by decide))), (fun h => c4 (bit_ne h (by decide))), (fun h => c5 (bit_ne h (by decide))), (fun h h2 => c6 (bit_ne h (by decide)) (bit_ne h2 (by decide))), (fun h => c7 (bit_ne h (by decide))), (fun h => c8 (bit_ne h (by decide))), (fun h => c9 (bit_ne h (by decide))), (fun h => c10 (bit_ne h (by decide))), (fun h => c11 (bit_ne h (by decide))), (fun h => c12 (bit_ne h (by decide))), (fun _ => rfl), (fun h => c14 (bit_ne h (by decide))), (fun h => c15 (bit_ne h (by decide))), (fun h => c16 (bit_ne h (by decide))), (fun h => c17 (bit_ne h (by decide))), (fun h => c18 (bit_ne h (by decide))), (fun h => c19 (bit_ne h (by decide))), (fun h => c20 (bit_ne h (by decide))), (fun h => c21 (bit_ne h (by decide)))⟩
    · obtain rfl := Option.some.inj ho
      have hsz : 14 < listed.size := by rw [hls]; decide
      have hdep13 : listed.getD 13 false = true := hall ⟨13, .guard⟩ (by simp) (by rfl)
      obtain rfl := c13 hdep13
      have hbw := hbW
      refine inv_valG (w' := w) (.agg (v8 PK)) rfl (by kernel_rfl) (exec_load_row 24 (.tmp 10) rfl gk rfl 24 _ _ (x3.below hbW (by omega)) Tryd.underlying24 rfl (id_info hPKl)) ?_
      exact ⟨s8, s30, s31, s32, s33, s34, s35, s36, s37, s38, s39, s40, s41, s42, (.bool true), (.agg (v8 PK)), s45, s46, s47, s48, s49, s50, rfl, hbw, (fun h => c0 (bit_ne h (by decide))), (fun h => c1 (bit_ne h (by decide))), (fun h => c2 (bit_ne h (by decide))), (fun h => c3 (bit_ne h (by decide))), (fun h => c4 (bit_ne h (by decide))), (fun h => c5 (bit_ne h (by decide))), (fun h h2 => c6 (bit_ne h (by decide)) (bit_ne h2 (by decide))), (fun h => c7 (bit_ne h (by decide))), (fun h => c8 (bit_ne h (by decide))), (fun h => c9 (bit_ne h (by decide))), (fun h => c10 (bit_ne h (by decide))), (fun h => c11 (bit_ne h (by decide))), (fun h => c12 (bit_ne h (by decide))), (fun h => c13 (bit_ne h (by decide))), (fun _ => rfl), (fun h => c15 (bit_ne h (by decide))), (fun h => c16 (bit_ne h (by decide))), (fun h => c17 (bit_ne h (by decide))), (fun h => c18 (bit_ne h (by decide))), (fun h => c19 (bit_ne h (by decide))), (fun h => c20 (bit_ne h (by decide))), (fun h => c21 (bit_ne h (by decide)))⟩
    · obtain rfl := Option.some.inj ho
      have hsz : 15 < listed.size := by rw [hls]; decide
      have hdep13 : listed.getD 13 false = true := hall ⟨13, .guard⟩ (by simp) (by rfl)
      obtain rfl := c13 hdep13
      have hbw := hbW
      refine inv_valG (w' := w) (.agg (v8 nm)) rfl (by kernel_rfl) (exec_load_row 22 (.tmp 4) rfl w0.heap.size rfl 22 _ _ (x0.below hbW (by omega)) Tryd.underlying22 rfl (name_info hn)) ?_
      exact ⟨s8, s30, s31, s32, s33, s34, s35, s36, s37, s38, s39, s40, s41, s42, (.bool true), s44, (.agg (v8 nm)), s46, s47, s48, s49, s50, rfl, hbw, (fun h => c0 (bit_ne h (by decide))), (fun h => c1 (bit_ne h (by decide))), (fun h => c2 (bit_ne h (by decide))), (fun h => c3 (bit_ne h (by decide))), (fun h => c4 (bit_ne h (by decide))), (fun h => c5 (bit_ne h (by decide))), (fun h h2 => c6 (bit_ne h (by decide)) (bit_ne h2 (by decide))), (fun h => c7 (bit_ne h (by decide))), (fun h => c8 (bit_ne h (by decide))), (fun h => c9 (bit_ne h (by decide))), (fun h => c10 (bit_ne h (by decide))), (fun h => c11 (bit_ne h (by decide))), (fun h => c12 (bit_ne h (by decide))), (fun h => c13 (bit_ne h (by decide))), (fun h => c14 (bit_ne h (by decide))), (fun _ => rfl), (fun h => c16 (bit_ne h (by decide))), (fun h => c17 (bit_ne h (by decide))), (fun h => c18 (bit_ne h (by decide))), (fun h => c19 (bit_ne h (by decide))), (fun h => c20 (bit_ne h (by decide))), (fun h => c21 (bit_ne h (by decide)))⟩
    · obtain rfl := Option.some.inj ho
      have hsz : 16 < listed.size := by rw [hls]; decide
      have hdep13 : listed.getD 13 false = true := hall ⟨13, .guard⟩ (by simp) (by rfl)
      obtain rfl := c13 hdep13
      have hbw := hbW
      refine inv_valG (w' := w) (.int .i64 q) rfl (by kernel_rfl) rfl ?_
      exact ⟨s8, s30, s31, s32, s33, s34, s35, s36, s37, s38, s39, s40, s41, s42, (.bool true), s44, s45, (.int .i64 q), s47, s48, s49, s50, rfl, hbw, (fun h => c0 (bit_ne h (by decide))), (fun h => c1 (bit_ne h (by decide))), (fun h => c2 (bit_ne h (by decide))), (fun h => c3 (bit_ne h (by decide))), (fun h => c4 (bit_ne h (by decide))), (fun h => c5 (bit_ne h (by decide))), (fun h h2 => c6 (bit_ne h (by decide)) (bit_ne h2 (by decide))), (fun h => c7 (bit_ne h (by decide))), (fun h => c8 (bit_ne h (by decide))), (fun h => c9 (bit_ne h (by decide))), (fun h => c10 (bit_ne h (by decide))), (fun h => c11 (bit_ne h (by decide))), (fun h => c12 (bit_ne h (by decide))), (fun h => c13 (bit_ne h (by decide))), (fun h => c14 (bit_ne h (by decide))), (fun h => c15 (bit_ne h (by decide))), (fun _ => rfl), (fun h => c17 (bit_ne h (by decide))), (fun h => c18 (bit_ne h (by decide))), (fun h => c19 (bit_ne h (by decide))), (fun h => c20 (bit_ne h (by decide))), (fun h => c21 (bit_ne h (by decide)))⟩
    · obtain rfl := Option.some.inj ho
      have hsz : 17 < listed.size := by rw [hls]; decide
      have hdep13 : listed.getD 13 false = true := hall ⟨13, .guard⟩ (by simp) (by rfl)
      obtain rfl := c13 hdep13
      have hbw := hbW
      refine inv_valG (w' := w) (.agg (v8 seed)) rfl (by kernel_rfl) (exec_load_row 24 (.tmp 6) rfl (w0.heap.size + 1) rfl 24 _ _ (x1.below hbW (by omega)) Tryd.underlying24 rfl (id_info hs)) ?_
      exact ⟨s8, s30, s31, s32, s33, s34, s35, s36, s37, s38, s39, s40, s41, s42, (.bool true), s44, s45, s46, (.agg (v8 seed)), s48, s49, s50, rfl, hbw, (fun h => c0 (bit_ne h (by decide))), (fun h => c1 (bit_ne h (by decide))), (fun h => c2 (bit_ne h (by decide))), (fun h => c3 (bit_ne h (by decide))), (fun h => c4 (bit_ne h (by decide))), (fun h => c5 (bit_ne h (by decide))), (fun h h2 => c6 (bit_ne h (by decide)) (bit_ne h2 (by decide))), (fun h => c7 (bit_ne h (by decide))), (fun h => c8 (bit_ne h (by decide))), (fun h => c9 (bit_ne h (by decide))), (fun h => c10 (bit_ne h (by decide))), (fun h => c11 (bit_ne h (by decide))), (fun h => c12 (bit_ne h (by decide))), (fun h => c13 (bit_ne h (by decide))), (fun h => c14 (bit_ne h (by decide))), (fun h => c15 (bit_ne h (by decide))), (fun h => c16 (bit_ne h (by decide))), (fun _ => rfl), (fun h => c18 (bit_ne h (by decide))), (fun h => c19 (bit_ne h (by decide))), (fun h => c20 (bit_ne h (by decide))), (fun h => c21 (bit_ne h (by decide)))⟩
    · obtain rfl := Option.some.inj ho
      have hsz : 18 < listed.size := by rw [hls]; decide
      have hdep15 : listed.getD 15 false = true := hall ⟨15, .data⟩ (by simp) (by rfl)
      obtain rfl := c15 hdep15
      have hdep16 : listed.getD 16 false = true := hall ⟨16, .data⟩ (by simp) (by rfl)
      obtain rfl := c16 hdep16
      have hdep17 : listed.getD 17 false = true := hall ⟨17, .data⟩ (by simp) (by rfl)
      obtain rfl := c17 hdep17
      have hdep13 : listed.getD 13 false = true := hall ⟨13, .guard⟩ (by simp) (by rfl)
      obtain rfl := c13 hdep13
      refine inv_callG 16 #[.agg (v8 nm), .int .i64 q, .agg (v8 seed)] _ rfl (by kernel_rfl) (by kernel_rfl) (hR w) ?_
      rintro e w' ⟨rfl, hb⟩
      have hbw : Below B w4 w' := hbW.trans (hb.mono (hsB hbW))
      refine ⟨_, rfl, ?_⟩
      exact ⟨s8, s30, s31, s32, s33, s34, s35, s36, s37, s38, s39, s40, s41, s42, (.bool true), s44, (.agg (v8 nm)), (.int .i64 q), (.agg (v8 seed)), (.agg (v8 PK)), s49, s50, rfl, hbw, (fun h => c0 (bit_ne h (by decide))), (fun h => c1 (bit_ne h (by decide))), (fun h => c2 (bit_ne h (by decide))), (fun h => c3 (bit_ne h (by decide))), (fun h => c4 (bit_ne h (by decide))), (fun h => c5 (bit_ne h (by decide))), (fun h h2 => (c6 (bit_ne h (by decide)) (bit_ne h2 (by decide))).below hb), (fun h => c7 (bit_ne h (by decide))), (fun h => c8 (bit_ne h (by decide))), (fun h => c9 (bit_ne h (by decide))), (fun h => c10 (bit_ne h (by decide))), (fun h => c11 (bit_ne h (by decide))), (fun h => c12 (bit_ne h (by decide))), (fun h => c13 (bit_ne h (by decide))), (fun h => c14 (bit_ne h (by decide))), (fun h => c15 (bit_ne h (by decide))), (fun h => c16 (bit_ne h (by decide))), (fun h => c17 (bit_ne h (by decide))), (fun _ => rfl), (fun h => c19 (bit_ne h (by decide))), (fun h => c20 (bit_ne h (by decide))), (fun h => c21 (bit_ne h (by decide)))⟩
    · obtain rfl := Option.some.inj ho
      have hsz : 19 < listed.size := by rw [hls]; decide
      have hdep14 : listed.getD 14 false = true := hall ⟨14, .data⟩ (by simp) (by rfl)
      obtain rfl := c14 hdep14
      have hdep18 : listed.getD 18 false = true := hall ⟨18, .data⟩ (by simp) (by rfl)
      obtain rfl := c18 hdep18
      have hdep13 : listed.getD 13 false = true := hall ⟨13, .guard⟩ (by simp) (by rfl)
      obtain rfl := c13 hdep13
      have hbw := hbW
      refine inv_valG (w' := w) (.bool true) rfl (by kernel_rfl) (exec_eql_id (.tmp 44) (.tmp 48) rfl PK rfl rfl hPKl) ?_
      exact ⟨s8, s30, s31, s32, s33, s34, s35, s36, s37, s38, s39, s40, s41, s42, (.bool true), (.agg (v8 PK)), s45, s46, s47, (.agg (v8 PK)), (.bool true), s50, rfl, hbw, (fun h => c0 (bit_ne h (by decide))), (fun h => c1 (bit_ne h (by decide))), (fun h => c2 (bit_ne h (by decide))), (fun h => c3 (bit_ne h (by decide))), (fun h => c4 (bit_ne h (by decide))), (fun h => c5 (bit_ne h (by decide))), (fun h h2 => c6 (bit_ne h (by decide)) (bit_ne h2 (by decide))), (fun h => c7 (bit_ne h (by decide))), (fun h => c8 (bit_ne h (by decide))), (fun h => c9 (bit_ne h (by decide))), (fun h => c10 (bit_ne h (by decide))), (fun h => c11 (bit_ne h (by decide))), (fun h => c12 (bit_ne h (by decide))), (fun h => c13 (bit_ne h (by decide))), (fun h => c14 (bit_ne h (by decide))), (fun h => c15 (bit_ne h (by decide))), (fun h => c16 (bit_ne h (by decide))), (fun h => c17 (bit_ne h (by decide))), (fun h => c18 (bit_ne h (by decide))), (fun _ => rfl), (fun h => c20 (bit_ne h (by decide))), (fun h => c21 (bit_ne h (by decide)))⟩
    · obtain rfl := Option.some.inj ho
      have hsz : 20 < listed.size := by rw [hls]; decide
      have hdep13 : listed.getD 13 false = true := hall ⟨13, .data⟩ (by simp) (by rfl)
      obtain rfl := c13 hdep13
      have hdep19 : listed.getD 19 false = true := hall ⟨19, .data⟩ (by simp) (by rfl)
      obtain rfl := c19 hdep19
      have hbw := hbW
      refine inv_val (w' := w) (.bool true) rfl rfl (by kernel_rfl) ?_
      exact ⟨s8, s30, s31, s32, s33, s34, s35, s36, s37, s38, s39, s40, s41, s42, (.bool true), s44, s45, s46, s47, s48, (.bool true), (.bool true), rfl, hbw, (fun h => c0 (bit_ne h (by decide))), (fun h => c1 (bit_ne h (by decide))), (fun h => c2 (bit_ne h (by decide))), (fun h => c3 (bit_ne h (by decide))), (fun h => c4 (bit_ne h (by decide))), (fun h => c5 (bit_ne h (by decide))), (fun h h2 => c6 (bit_ne h (by decide)) (bit_ne h2 (by decide))), (fun h => c7 (bit_ne h (by decide))), (fun h => c8 (bit_ne h (by decide))), (fun h => c9 (bit_ne h (by decide))), (fun h => c10 (bit_ne h (by decide))), (fun h => c11 (bit_ne h (by decide))), (fun h => c12 (bit_ne h (by decide))), (fun h => c13 (bit_ne h (by decide))), (fun h => c14 (bit_ne h (by decide))), (fun h => c15 (bit_ne h (by decide))), (fun h => c16 (bit_ne h (by decide))), (fun h => c17 (bit_ne h (by decide))), (fun h => c18 (bit_ne h (by decide))), (fun h => c19 (bit_ne h (by decide))), (fun _ => rfl), (fun h => c21 (bit_ne h (by decide)))⟩
    · obtain rfl := Option.some.inj ho
      have hsz : 21 < listed.size := by rw [hls]; decide
      have hdep20 : listed.getD 20 false = true := hall ⟨20, .data⟩ (by simp) (by rfl)
      obtain rfl := c20 hdep20
      have hbw := hbW
      refine inv_val (w' := w) (.bool true) rfl rfl rfl ?_
      exact ⟨(.bool true), s30, s31, s32, s33, s34, s35, s36, s37, s38, s39, s40, s41, s42, s43, s44, s45, s46, s47, s48, s49, (.bool true), rfl, hbw, (fun h => c0 (bit_ne h (by decide))), (fun h => c1 (bit_ne h (by decide))), (fun h => c2 (bit_ne h (by decide))), (fun h => c3 (bit_ne h (by decide))), (fun h => c4 (bit_ne h (by decide))), (fun h => c5 (bit_ne h (by decide))), (fun h h2 => c6 (bit_ne h (by decide)) (bit_ne h2 (by decide))), (fun h => c7 (bit_ne h (by decide))), (fun h => c8 (bit_ne h (by decide))), (fun h => c9 (bit_ne h (by decide))), (fun h => c10 (bit_ne h (by decide))), (fun h => c11 (bit_ne h (by decide))), (fun h => c12 (bit_ne h (by decide))), (fun h => c13 (bit_ne h (by decide))), (fun h => c14 (bit_ne h (by decide))), (fun h => c15 (bit_ne h (by decide))), (fun h => c16 (bit_ne h (by decide))), (fun h => c17 (bit_ne h (by decide))), (fun h => c18 (bit_ne h (by decide))), (fun h => c19 (bit_ne h (by decide))), (fun h => c20 (bit_ne h (by decide))), (fun _ => rfl)⟩
  · intro listed a w hall hJ
    obtain ⟨s8, s30, s31, s32, s33, s34, s35, s36, s37, s38, s39, s40, s41, s42, s43, s44, s45, s46, s47, s48, s49, s50, rfl, hbW, c0, c1, c2, c3, c4, c5, c6, c7, c8, c9, c10, c11, c12, c13, c14, c15, c16, c17, c18, c19, c20, c21⟩ := hJ
    obtain rfl := c0 (hall 0 (by decide))
    obtain rfl := c1 (hall 1 (by decide))
    obtain rfl := c2 (hall 2 (by decide))
    obtain rfl := c3 (hall 3 (by decide))
    obtain rfl := c4 (hall 4 (by decide))
    obtain rfl := c5 (hall 5 (by decide))
    obtain rfl := c7 (hall 7 (by decide))
    obtain rfl := c8 (hall 8 (by decide))
    obtain rfl := c9 (hall 9 (by decide))
    obtain rfl := c10 (hall 10 (by decide))
    obtain rfl := c11 (hall 11 (by decide))
    obtain rfl := c12 (hall 12 (by decide))
    obtain rfl := c13 (hall 13 (by decide))
    obtain rfl := c14 (hall 14 (by decide))
    obtain rfl := c15 (hall 15 (by decide))
    obtain rfl := c16 (hall 16 (by decide))
    obtain rfl := c17 (hall 17 (by decide))
    obtain rfl := c18 (hall 18 (by decide))
    obtain rfl := c19 (hall 19 (by decide))
    obtain rfl := c20 (hall 20 (by decide))
    obtain rfl := c21 (hall 21 (by decide))
    have yb := xb.trans (hbW.mono (by have := xb.size; omega))
    go_wp2
    go_ret
    exact ⟨rfl, yb⟩
end Go.Proofs.YtoebnkepeledmaaDoor
