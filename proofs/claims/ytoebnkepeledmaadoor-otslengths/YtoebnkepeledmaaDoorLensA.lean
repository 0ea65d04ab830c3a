/- OtsLengths returns true and turns no old memory, where the byte is 2. -/
import Derived.Test.YtoebnkepeledmaaDoorClaims
import Derived.Test.YtoebnkepeledmaaDoorOtsH
import Derived.Test.YtoebnkepeledmaaDoorKnown5
namespace Go.Proofs.YtoebnkepeledmaaDoor
open Go Go.RowKit

set_option maxRecDepth 20000 in
set_option maxHeartbeats 1500000 in
theorem lengths_two (S : List Int → List Int) (hS : Hash S) (nm seed msg : List Int) (q : Int) (mp : Option Addr) (ml mc : Nat) (w0 : World) (hL : Laid w0) (hn : nm.length = 16) (hs : seed.length = 32) (hml : msg.length = ml) (hmm : ml ≤ 100) (hmb : Bytes w0 mp msg) :
    Calls Tryd.prog 7 #[.agg (v8 nm), .int .i64 q, .agg (v8 seed), .slice mp ml mc, .int .u8 2] w0 fun e w' => e = .returned (.bool true) ∧ Below w0.heap.size w0 w' := by
  have hK : ∀ wx, Laid wx → Calls Tryd.prog 14 #[] wx fun e w' => e = .returned (.bool true) ∧ Below wx.heap.size wx w' := fun wx hl => known5_any S hS wx hl
  have hP : ∀ wx, Laid wx → Calls Tryd.prog 15 #[.agg (v8 nm), .int .i64 q, .agg (v8 seed)] wx fun e w' => e = .returned (.agg (v8 (pubL S (nm ++ n4 q) seed))) ∧ Below wx.heap.size wx w' := fun wx hl => Public_any S hS nm seed q wx hl hn hs
  have hSi : ∀ wx, Laid wx → Bytes wx mp msg → Calls Tryd.prog 17 #[.agg (v8 nm), .int .i64 q, .agg (v8 seed), .slice mp ml mc] wx fun e w' => ∃ g, e = .returned (.slice (some ⟨g, 0, none⟩) 4292 4292) ∧ wx.heap.size ≤ g ∧ Row w' g 5 (v8 (sigL S (nm ++ n4 q) seed msg)) ∧ Below wx.heap.size wx w' := fun wx hl hb => Sign_any S hS nm seed msg q mp ml mc wx hl hn hs hml (by omega) hb
  have hSGl : (sigL S (nm ++ n4 q) seed msg).length = 4292 := sigL_len (fun l => hS.len l) _ _ _
  have hSGt4 := sigL_type S (nm ++ n4 q) seed msg
  have hbs := back_sig (S := S) (fun l => hS.len l) (nm ++ n4 q) seed msg
  have hok0 : ∀ g wx, Laid wx → Bytes wx mp msg → Bytes wx (some ⟨g, 0, none⟩) (sigL S (nm ++ n4 q) seed msg) → Calls Tryd.prog 18 #[.agg (v8 nm), .int .i64 q, .slice mp ml mc, .slice (some ⟨g, 0, none⟩) 4292 4292] wx fun e w' => e = .returned (.tuple #[.agg (v8 (pubL S (nm ++ n4 q) seed)), .int .i64 0]) ∧ Below wx.heap.size wx w' := fun g wx hl h1 h2 => by
    have := Back_ok S hS msg nm (sigL S (nm ++ n4 q) seed msg) q mp (some ⟨g, 0, none⟩) ml mc 4292 4292 wx hl hn hml (by omega) h1 hSGl (Nat.le_refl _) h2 rfl hSGt4
    rwa [hbs] at this
  have hPKl : (pubL S (nm ++ n4 q) seed).length = 32 := hS.len _
  have hset : ((sigL S (nm ++ n4 q) seed msg).set 3 2).take 4 = [0, 0, 0, 2] := by rw [List.take_set, hSGt4]; rfl
  have hsl3 : ((sigL S (nm ++ n4 q) seed msg).set 3 2).length = 4292 := by rw [List.length_set, hSGl]
  obtain ⟨HV, hHV⟩ : ∃ HV, HV = backL S (nm ++ n4 q) msg ((sigL S (nm ++ n4 q) seed msg).set 3 2) := ⟨_, rfl⟩
  have hHVl : HV.length = 32 := by rw [hHV]; exact hS.len _
  have h40 : ∀ g wx, Laid wx → Bytes wx mp msg → Bytes wx (some ⟨g, 0, none⟩) ((sigL S (nm ++ n4 q) seed msg).set 3 2) → Calls Tryd.prog 18 #[.agg (v8 nm), .int .i64 q, .slice mp ml mc, .slice (some ⟨g, 0, none⟩) 4292 4292] wx fun e w' => e = .returned (.tuple #[.agg (v8 HV), .int .i64 0]) ∧ Below wx.heap.size wx w' := fun g wx hl h1 h2 => by
    rw [hHV]
    exact Back_ok S hS msg nm _ q mp (some ⟨g, 0, none⟩) ml mc 4292 4292 wx hl hn hml (by omega) h1 hsl3 (Nat.le_refl _) h2 rfl hset
  clear hHV
  have hcut : ∀ g wx, Bytes wx (some ⟨g, 0, none⟩) (sigL S (nm ++ n4 q) seed msg) → Calls Tryd.prog 18 #[.agg (v8 nm), .int .i64 q, .slice mp ml mc, .slice (some ⟨g, 0, none⟩) 4291 4292] wx fun e w' => e = .returned (.tuple #[.agg (v8 (zer 32)), .int .i64 12]) ∧ Below wx.heap.size wx w' := fun g wx h =>
    Back_len nm ((sigL S (nm ++ n4 q) seed msg).take 4291) q mp (some ⟨g, 0, none⟩) ml mc 4291 4292 wx (by rw [List.length_take, hSGl]; rfl) (h.take 4291) (by omega)
  clear hset hsl3 hSGt4 hbs
  generalize sigL S (nm ++ n4 q) seed msg = SG at *
  generalize pubL S (nm ++ n4 q) seed = PK at *
  have hSGt : (SG ++ [2]).length = 4293 := by rw [List.length_append, hSGl]; rfl
  have heq : ∀ wx, (binOp .eql 24 (.agg (v8 PK)) (.agg (v8 PK))).run Tryd.prog wx = .ok (.bool true) wx := fun wx => by
    rw [run_eql_bytes wx 24 5 32 _ _ Tryd.underlying24 Tryd.underlying5 (by kernel_rfl) hPKl hPKl]; simp
  have hm1 : ¬ (100 : Int) < (ml : Int) := by omega
  have hm2 : decide ((100 : Int) < (ml : Int)) = false := by simpa using hm1
  have z32 := zv32
  go_enter Tryd.func7, Tryd.ntmps7
  go_upto_region 1 with fail
  have r0 : Row (World.alloc (World.alloc w0 (.cells (v8 nm) 22)) (.cells (v8 seed) 24)) w0.heap.size 22 (v8 nm) := (Row.new _ _ _).alloc _
  have r1 : Row (World.alloc (World.alloc w0 (.cells (v8 nm) 22)) (.cells (v8 seed) 24)) (w0.heap.size + 1) 24 (v8 seed) := Row.newAt _ _ _ _ (by simp)
  have b1 : Below w0.heap.size w0 (World.alloc (World.alloc w0 (.cells (v8 nm) 22)) (.cells (v8 seed) 24)) := ((Below.refl _ _).alloc (Nat.le_refl _) _).alloc (by simp) _
  change Code.wp _ _ _ _ ((World.alloc (World.alloc w0 (.cells (v8 nm) 22)) (.cells (v8 seed) 24)))
  generalize (World.alloc (World.alloc w0 (.cells (v8 nm) 22)) (.cells (v8 seed) 24)) = w1 at r0 r1 b1 ⊢
  go_upto_region 6 with (first | (go_at_call 14; (with_reducible refine Calls.mono (hK _ (hL.below b1)) ?_); rintro e w2 ⟨rfl, hb2⟩; have p0 := r0.below hb2 r0.lt; have p1 := r1.below hb2 r1.lt; have pb := b1.trans (hb2.mono b1.size); have hp1 := p1.lt) | (refine wpList_load_row (by rfl) 22 (.tmp 5) (by rfl) w0.heap.size (by rfl) 22 (v8 nm) (0, 0) _ p0 Tryd.underlying22 rfl (name_info hn) ?_) | (refine wpList_load_row (by rfl) 24 (.tmp 7) (by rfl) (w0.heap.size + 1) (by rfl) 24 (v8 seed) (0, 0) _ p1 Tryd.underlying24 rfl (id_info hs) ?_) | (go_at_call 17; (with_reducible refine Calls.mono (hSi _ (hL.below pb) (hmb.below pb)) ?_); rintro e w3 ⟨g, rfl, hg, x2, hb3⟩))
  have x0 := p0.below hb3 (by omega)
  have x1 := p1.below hb3 (by omega)
  have xb := pb.trans (hb3.mono pb.size)
  have hgg : w0.heap.size + 1 < g := by omega
  clear r0 r1 b1 hb2 p0 p1 pb hb3 hK hSi hp1 hg
  have hx2 := x2.lt
  have hok := hok0 g
  have h4 := h40 g
  clear hok0 h40
  obtain ⟨B, hB⟩ : ∃ B, B = w3.heap.size := ⟨_, rfl⟩
  have hsB : ∀ {w : World}, Below B w3 w → B ≤ w.heap.size := fun h => by have := h.size; omega
  refine region_invFA  (by kernel_rfl) (by kernel_rfl) (fun a0 listed a w => ∃ s12 s13 s30 s31 s32 s33 s34 s35 s36 s37 s38 s39 s40 s41, a = (Act.put (Act.put (Act.put (Act.put (Act.put (Act.put (Act.put (Act.put (Act.put (Act.put (Act.put (Act.put (Act.put (Act.put a0 (some 12) s12) (some 13) s13) (some 30) s30) (some 31) s31) (some 32) s32) (some 33) s33) (some 34) s34) (some 35) s35) (some 36) s36) (some 37) s37) (some 38) s38) (some 39) s39) (some 40) s40) (some 41) s41) ∧ Below B w3 w ∧ (listed.getD 0 false = true → s31 = .agg (v8 nm)) ∧ (listed.getD 1 false = true → s32 = .int .i64 q) ∧ (listed.getD 2 false = true → s33 = .slice mp ml mc) ∧ (listed.getD 3 false = true → s34 = .slice (some ⟨g, 0, none⟩) 4292 4292) ∧ (listed.getD 4 false = true → s35 = .slice (some ⟨g, 0, none⟩) 4292 4292) ∧ (listed.getD 5 false = true → s36 = .int .i64 4292) ∧ (listed.getD 6 false = true → s37 = .int .i64 4291) ∧ (listed.getD 7 false = true → s38 = .slice (some ⟨g, 0, none⟩) 4291 4292) ∧ (listed.getD 8 false = true → s39 = (.tuple #[.agg (v8 (zer 32)), .int .i64 12])) ∧ (listed.getD 9 false = true → s30 = (.tuple #[.agg (v8 (zer 32)), .int .i64 12])) ∧ (listed.getD 10 false = true → s40 = .agg (v8 (zer 32))) ∧ (listed.getD 11 false = true → s41 = .int .i64 12) ∧ (listed.getD 12 false = true → listed.getD 13 false = false → VarS w B s12 24 (zer 32)) ∧ (listed.getD 13 false = true → VarS w B s12 24 (zer 32)) ∧ (listed.getD 14 false = true → s13 = .int .i64 12)) ?_ ?_ ?_
  all_goals simp only [Act.put, List.setIfInBounds_toArray, List.set_cons_succ, List.set_cons_zero]
  · exact ⟨undef, undef, undef, undef, undef, undef, undef, undef, undef, undef, undef, undef, undef, undef, rfl, (Below.refl B _).drew, (fun h => by rw [getD_replicate_false] at h; cases h), (fun h => by rw [getD_replicate_false] at h; cases h), (fun h => by rw [getD_replicate_false] at h; cases h), (fun h => by rw [getD_replicate_false] at h; cases h), (fun h => by rw [getD_replicate_false] at h; cases h), (fun h => by rw [getD_replicate_false] at h; cases h), (fun h => by rw [getD_replicate_false] at h; cases h), (fun h => by rw [getD_replicate_false] at h; cases h), (fun h => by rw [getD_replicate_false] at h; cases h), (fun h => by rw [getD_replicate_false] at h; cases h), (fun h => by rw [getD_replicate_false] at h; cases h), (fun h => by rw [getD_replicate_false] at h; cases h), (fun h => by rw [getD_replicate_false] at h; cases h), (fun h => by rw [getD_replicate_false] at h; cases h), (fun h => by rw [getD_replicate_false] at h; cases h)⟩
  · intro listed a w i o hls hJ hin ho hi hall hcl
    obtain ⟨s12, s13, s30, s31, s32, s33, s34, s35, s36, s37, s38, s39, s40, s41, rfl, hbW, c0, c1, c2, c3, c4, c5, c6, c7, c8, c9, c10, c11, c12, c13, c14⟩ := hJ
    replace hin : i < 15 := hin
    rcases (by omega : i = 0 ∨ i = 1 ∨ i = 2 ∨ i = 3 ∨ i = 4 ∨ i = 5 ∨ i = 6 ∨ i = 7 ∨ i = 8 ∨ i = 9 ∨ i = 10 ∨ i = 11 ∨ i = 12 ∨ i = 13 ∨ i = 14) with rfl | rfl | rfl | rfl | rfl | rfl | rfl | rfl | rfl | rfl | rfl | rfl | rfl | rfl | rfl
    · obtain rfl := Option.some.inj ho
      have hsz : 0 < listed.size := by rw [hls]; decide
      have hbw := hbW
      refine inv_val (w' := w) (.agg (v8 nm)) rfl rfl (exec_load_row 22 (.tmp 5) rfl w0.heap.size rfl 22 _ _ (x0.below hbW (by omega)) Tryd.underlying22 rfl (name_info hn)) ?_
      exact ⟨s12, s13, s30, (.agg (v8 nm)), s32, s33, s34, s35, s36, s37, s38, s39, s40, s41, rfl, hbw, (fun _ => rfl), (fun h => c1 (bit_ne h (by decide))), (fun h => c2 (bit_ne h (by decide))), (fun h => c3 (bit_ne h (by decide))), (fun h => c4 (bit_ne h (by decide))), (fun h => c5 (bit_ne h (by decide))), (fun h => c6 (bit_ne h (by decide))), (fun h => c7 (bit_ne h (by decide))), (fun h => c8 (bit_ne h (by decide))), (fun h => c9 (bit_ne h (by decide))), (fun h => c10 (bit_ne h (by decide))), (fun h => c11 (bit_ne h (by decide))), (fun h h2 => c12 (bit_ne h (by decide)) (bit_ne h2 (by decide))), (fun h => c13 (bit_ne h (by decide))), (fun h => c14 (bit_ne h (by decide)))⟩
    · obtain rfl := Option.some.inj ho
      have hsz : 1 < listed.size := by rw [hls]; decide
      have hbw := hbW
      refine inv_val (w' := w) (.int .i64 q) rfl rfl rfl ?_
      exact ⟨s12, s13, s30, s31, (.int .i64 q), s33, s34, s35, s36, s37, s38, s39, s40, s41, rfl, hbw, (fun h => c0 (bit_ne h (by decide))), (fun _ => rfl), (fun h => c2 (bit_ne h (by decide))), (fun h => c3 (bit_ne h (by decide))), (fun h => c4 (bit_ne h (by decide))), (fun h => c5 (bit_ne h (by decide))), (fun h => c6 (bit_ne h (by decide))), (fun h => c7 (bit_ne h (by decide))), (fun h => c8 (bit_ne h (by decide))), (fun h => c9 (bit_ne h (by decide))), (fun h => c10 (bit_ne h (by decide))), (fun h => c11 (bit_ne h (by decide))), (fun h h2 => c12 (bit_ne h (by decide)) (bit_ne h2 (by decide))), (fun h => c13 (bit_ne h (by decide))), (fun h => c14 (bit_ne h (by decide)))⟩
    · obtain rfl := Option.some.inj ho
      have hsz : 2 < listed.size := by rw [hls]; decide
      have hbw := hbW
      refine inv_val (w' := w) (.slice mp ml mc) rfl rfl rfl ?_
      exact ⟨s12, s13, s30, s31, s32, (.slice mp ml mc), s34, s35, s36, s37, s38, s39, s40, s41, rfl, hbw, (fun h => c0 (bit_ne h (by decide))), (fun h => c1 (bit_ne h (by decide))), (fun _ => rfl), (fun h => c3 (bit_ne h (by decide))), (fun h => c4 (bit_ne h (by decide))), (fun h => c5 (bit_ne h (by decide))), (fun h => c6 (bit_ne h (by decide))), (fun h => c7 (bit_ne h (by decide))), (fun h => c8 (bit_ne h (by decide))), (fun h => c9 (bit_ne h (by decide))), (fun h => c10 (bit_ne h (by decide))), (fun h => c11 (bit_ne h (by decide))), (fun h h2 => c12 (bit_ne h (by decide)) (bit_ne h2 (by decide))), (fun h => c13 (bit_ne h (by decide))), (fun h => c14 (bit_ne h (by decide)))⟩
    · obtain rfl := Option.some.inj ho
      have hsz : 3 < listed.size := by rw [hls]; decide
      have hbw := hbW
      refine inv_val (w' := w) (.slice (some ⟨g, 0, none⟩) 4292 4292) rfl rfl rfl ?_
      exact ⟨s12, s13, s30, s31, s32, s33, (.slice (some ⟨g, 0, none⟩) 4292 4292), s35, s36, s37, s38, s39, s40, s41, rfl, hbw, (fun h => c0 (bit_ne h (by decide))), (fun h => c1 (bit_ne h (by decide))), (fun h => c2 (bit_ne h (by decide))), (fun _ => rfl), (fun h => c4 (bit_ne h (by decide))), (fun h => c5 (bit_ne h (by decide))), (fun h => c6 (bit_ne h (by decide))), (fun h => c7 (bit_ne h (by decide))), (fun h => c8 (bit_ne h (by decide))), (fun h => c9 (bit_ne h (by decide))), (fun h => c10 (bit_ne h (by decide))), (fun h => c11 (bit_ne h (by decide))), (fun h h2 => c12 (bit_ne h (by decide)) (bit_ne h2 (by decide))), (fun h => c13 (bit_ne h (by decide))), (fun h => c14 (bit_ne h (by decide)))⟩
    · obtain rfl := Option.some.inj ho
      have hsz : 4 < listed.size := by rw [hls]; decide
      have hbw := hbW
      refine inv_val (w' := w) (.slice (some ⟨g, 0, none⟩) 4292 4292) rfl rfl rfl ?_
      exact ⟨s12, s13, s30, s31, s32, s33, s34, (.slice (some ⟨g, 0, none⟩) 4292 4292), s36, s37, s38, s39, s40, s41, rfl, hbw, (fun h => c0 (bit_ne h (by decide))), (fun h => c1 (bit_ne h (by decide))), (fun h => c2 (bit_ne h (by decide))), (fun h => c3 (bit_ne h (by decide))), (fun _ => rfl), (fun h => c5 (bit_ne h (by decide))), (fun h => c6 (bit_ne h (by decide))), (fun h => c7 (bit_ne h (by decide))), (fun h => c8 (bit_ne h (by decide))), (fun h => c9 (bit_ne h (by decide))), (fun h => c10 (bit_ne h (by decide))), (fun h => c11 (bit_ne h (by decide))), (fun h h2 => c12 (bit_ne h (by decide)) (bit_ne h2 (by decide))), (fun h => c13 (bit_ne h (by decide))), (fun h => c14 (bit_ne h (by decide)))⟩
    · obtain rfl := Option.some.inj ho
      have hsz : 5 < listed.size := by rw [hls]; decide
      have hdep4 : listed.getD 4 false = true := hall ⟨4, .data⟩ (by simp) (by rfl)
      obtain rfl := c4 hdep4
      have hbw := hbW
      refine inv_val (w' := w) (.int .i64 4292) rfl rfl (by kernel_rfl) ?_
      exact ⟨s12, s13, s30, s31, s32, s33, s34, (.slice (some ⟨g, 0, none⟩) 4292 4292), (.int .i64 4292), s37, s38, s39, s40, s41, rfl, hbw, (fun h => c0 (bit_ne h (by decide))), (fun h => c1 (bit_ne h (by decide))), (fun h => c2 (bit_ne h (by decide))), (fun h => c3 (bit_ne h (by decide))), (fun h => c4 (bit_ne h (by decide))), (fun _ => rfl), (fun h => c6 (bit_ne h (by decide))), (fun h => c7 (bit_ne h (by decide))), (fun h => c8 (bit_ne h (by decide))), (fun h => c9 (bit_ne h (by decide))), (fun h => c10 (bit_ne h (by decide))), (fun h => c11 (bit_ne h (by decide))), (fun h h2 => c12 (bit_ne h (by decide)) (bit_ne h2 (by decide))), (fun h => c13 (bit_ne h (by decide))), (fun h => c14 (bit_ne h (by decide)))⟩
    · obtain rfl := Option.some.inj ho
      have hsz : 6 < listed.size := by rw [hls]; decide
      have hdep5 : listed.getD 5 false = true := hall ⟨5, .data⟩ (by simp) (by rfl)
      obtain rfl := c5 hdep5
      have hbw := hbW
      refine inv_val (w' := w) (.int .i64 4291) rfl rfl (by kernel_rfl) ?_
      exact ⟨s12, s13, s30, s31, s32, s33, s34, s35, (.int .i64 4292), (.int .i64 4291), s38, s39, s40, s41, rfl, hbw, (fun h => c0 (bit_ne h (by decide))), (fun h => c1 (bit_ne h (by decide))), (fun h => c2 (bit_ne h (by decide))), (fun h => c3 (bit_ne h (by decide))), (fun h => c4 (bit_ne h (by decide))), (fun h => c5 (bit_ne h (by decide))), (fun _ => rfl), (fun h => c7 (bit_ne h (by decide))), (fun h => c8 (bit_ne h (by decide))), (fun h => c9 (bit_ne h (by decide))), (fun h => c10 (bit_ne h (by decide))), (fun h => c11 (bit_ne h (by decide))), (fun h h2 => c12 (bit_ne h (by decide)) (bit_ne h2 (by decide))), (fun h => c13 (bit_ne h (by decide))), (fun h => c14 (bit_ne h (by decide)))⟩
    · obtain rfl := Option.some.inj ho
      have hsz : 7 < listed.size := by rw [hls]; decide
      have hdep3 : listed.getD 3 false = true := hall ⟨3, .data⟩ (by simp) (by rfl)
      obtain rfl := c3 hdep3
      have hdep6 : listed.getD 6 false = true := hall ⟨6, .data⟩ (by simp) (by rfl)
      obtain rfl := c6 hdep6
      have hbw := hbW
      refine inv_val (w' := w) (.slice (some ⟨g, 0, none⟩) 4291 4292) rfl rfl (by kernel_rfl) ?_
      exact ⟨s12, s13, s30, s31, s32, s33, (.slice (some ⟨g, 0, none⟩) 4292 4292), s35, s36, (.int .i64 4291), (.slice (some ⟨g, 0, none⟩) 4291 4292), s39, s40, s41, rfl, hbw, (fun h => c0 (bit_ne h (by decide))), (fun h => c1 (bit_ne h (by decide))), (fun h => c2 (bit_ne h (by decide))), (fun h => c3 (bit_ne h (by decide))), (fun h => c4 (bit_ne h (by decide))), (fun h => c5 (bit_ne h (by decide))), (fun h => c6 (bit_ne h (by decide))), (fun _ => rfl), (fun h => c8 (bit_ne h (by decide))), (fun h => c9 (bit_ne h (by decide))), (fun h => c10 (bit_ne h (by decide))), (fun h => c11 (bit_ne h (by decide))), (fun h h2 => c12 (bit_ne h (by decide)) (bit_ne h2 (by decide))), (fun h => c13 (bit_ne h (by decide))), (fun h => c14 (bit_ne h (by decide)))⟩
    · obtain rfl := Option.some.inj ho
      have hsz : 8 < listed.size := by rw [hls]; decide
      have hdep0 : listed.getD 0 false = true := hall ⟨0, .data⟩ (by simp) (by rfl)
      obtain rfl := c0 hdep0
      have hdep1 : listed.getD 1 false = true := hall ⟨1, .data⟩ (by simp) (by rfl)
      obtain rfl := c1 hdep1
      have hdep2 : listed.getD 2 false = true := hall ⟨2, .data⟩ (by simp) (by rfl)
      obtain rfl := c2 hdep2
      have hdep7 : listed.getD 7 false = true := hall ⟨7, .data⟩ (by simp) (by rfl)
      obtain rfl := c7 hdep7
      refine inv_call 18 #[.agg (v8 nm), .int .i64 q, .slice mp ml mc, .slice (some ⟨g, 0, none⟩) 4291 4292] _ rfl rfl (by kernel_rfl) (hcut g w (x2.below hbW (by omega)).bytes) ?_
      rintro e w' ⟨rfl, hb⟩
      have hbw : Below B w3 w' := hbW.trans (hb.mono (hsB hbW))
      refine ⟨_, rfl, ?_⟩
      exact ⟨s12, s13, s30, (.agg (v8 nm)), (.int .i64 q), (.slice mp ml mc), s34, s35, s36, s37, (.slice (some ⟨g, 0, none⟩) 4291 4292), ((.tuple #[.agg (v8 (zer 32)), .int .i64 12])), s40, s41, rfl, hbw, (fun h => c0 (bit_ne h (by decide))), (fun h => c1 (bit_ne h (by decide))), (fun h => c2 (bit_ne h (by decide))), (fun h => c3 (bit_ne h (by decide))), (fun h => c4 (bit_ne h (by decide))), (fun h => c5 (bit_ne h (by decide))), (fun h => c6 (bit_ne h (by decide))), (fun h => c7 (bit_ne h (by decide))), (fun _ => rfl), (fun h => c9 (bit_ne h (by decide))), (fun h => c10 (bit_ne h (by decide))), (fun h => c11 (bit_ne h (by decide))), (fun h h2 => (c12 (bit_ne h (by decide)) (bit_ne h2 (by decide))).below hb), (fun h => (c13 (bit_ne h (by decide))).below hb), (fun h => c14 (bit_ne h (by decide)))⟩
    · obtain rfl := Option.some.inj ho
      have hsz : 9 < listed.size := by rw [hls]; decide
      have hdep8 : listed.getD 8 false = true := hall ⟨8, .data⟩ (by simp) (by rfl)
      obtain rfl := c8 hdep8
      have hbw := hbW
      refine inv_val (w' := w) (.tuple #[.agg (v8 (zer 32)), .int .i64 12]) rfl rfl rfl ?_
      exact ⟨s12, s13, (.tuple #[.agg (v8 (zer 32)), .int .i64 12]), s31, s32, s33, s34, s35, s36, s37, s38, ((.tuple #[.agg (v8 (zer 32)), .int .i64 12])), s40, s41, rfl, hbw, (fun h => c0 (bit_ne h (by decide))), (fun h => c1 (bit_ne h (by decide))), (fun h => c2 (bit_ne h (by decide))), (fun h => c3 (bit_ne h (by decide))), (fun h => c4 (bit_ne h (by decide))), (fun h => c5 (bit_ne h (by decide))), (fun h => c6 (bit_ne h (by decide))), (fun h => c7 (bit_ne h (by decide))), (fun h => c8 (bit_ne h (by decide))), (fun _ => rfl), (fun h => c10 (bit_ne h (by decide))), (fun h => c11 (bit_ne h (by decide))), (fun h h2 => c12 (bit_ne h (by decide)) (bit_ne h2 (by decide))), (fun h => c13 (bit_ne h (by decide))), (fun h => c14 (bit_ne h (by decide)))⟩
    · obtain rfl := Option.some.inj ho
      have hsz : 10 < listed.size := by rw [hls]; decide
      have hdep9 : listed.getD 9 false = true := hall ⟨9, .data⟩ (by simp) (by rfl)
      obtain rfl := c9 hdep9
      have hbw := hbW
      refine inv_val (w' := w) (.agg (v8 (zer 32))) rfl rfl (by kernel_rfl) ?_
      exact ⟨s12, s13, ((.tuple #[.agg (v8 (zer 32)), .int .i64 12])), s31, s32, s33, s34, s35, s36, s37, s38, s39, (.agg (v8 (zer 32))), s41, rfl, hbw, (fun h => c0 (bit_ne h (by decide))), (fun h => c1 (bit_ne h (by decide))), (fun h => c2 (bit_ne h (by decide))), (fun h => c3 (bit_ne h (by decide))), (fun h => c4 (bit_ne h (by decide))), (fun h => c5 (bit_ne h (by decide))), (fun h => c6 (bit_ne h (by decide))), (fun h => c7 (bit_ne h (by decide))), (fun h => c8 (bit_ne h (by decide))), (fun h => c9 (bit_ne h (by decide))), (fun _ => rfl), (fun h => c11 (bit_ne h (by decide))), (fun h h2 => c12 (bit_ne h (by decide)) (bit_ne h2 (by decide))), (fun h => c13 (bit_ne h (by decide))), (fun h => c14 (bit_ne h (by decide)))⟩
    · obtain rfl := Option.some.inj ho
      have hsz : 11 < listed.size := by rw [hls]; decide
      have hdep9 : listed.getD 9 false = true := hall ⟨9, .data⟩ (by simp) (by rfl)
      obtain rfl := c9 hdep9
      have hbw := hbW
      refine inv_val (w' := w) (.int .i64 12) rfl rfl (by kernel_rfl) ?_
      exact ⟨s12, s13, ((.tuple #[.agg (v8 (zer 32)), .int .i64 12])), s31, s32, s33, s34, s35, s36, s37, s38, s39, s40, (.int .i64 12), rfl, hbw, (fun h => c0 (bit_ne h (by decide))), (fun h => c1 (bit_ne h (by decide))), (fun h => c2 (bit_ne h (by decide))), (fun h => c3 (bit_ne h (by decide))), (fun h => c4 (bit_ne h (by decide))), (fun h => c5 (bit_ne h (by decide))), (fun h => c6 (bit_ne h (by decide))), (fun h => c7 (bit_ne h (by decide))), (fun h => c8 (bit_ne h (by decide))), (fun h => c9 (bit_ne h (by decide))), (fun h => c10 (bit_ne h (by decide))), (fun _ => rfl), (fun h h2 => c12 (bit_ne h (by decide)) (bit_ne h2 (by decide))), (fun h => c13 (bit_ne h (by decide))), (fun h => c14 (bit_ne h (by decide)))⟩
    · obtain rfl := Option.some.inj ho
      have hsz : 12 < listed.size := by rw [hls]; decide
      have hbw : Below B w3 (w.alloc (.cells (v8 (zer 32)) 24)) := hbW.alloc (hsB hbW) _
      refine inv_val (.pointer (some ⟨w.heap.size, 0, none⟩)) (w' := w.alloc (.cells (v8 (zer 32)) 24)) rfl rfl (by kernel_rfl) ?_
      exact ⟨(.pointer (some ⟨w.heap.size, 0, none⟩)), s13, s30, s31, s32, s33, s34, s35, s36, s37, s38, s39, s40, s41, rfl, hbw, (fun h => c0 (bit_ne h (by decide))), (fun h => c1 (bit_ne h (by decide))), (fun h => c2 (bit_ne h (by decide))), (fun h => c3 (bit_ne h (by decide))), (fun h => c4 (bit_ne h (by decide))), (fun h => c5 (bit_ne h (by decide))), (fun h => c6 (bit_ne h (by decide))), (fun h => c7 (bit_ne h (by decide))), (fun h => c8 (bit_ne h (by decide))), (fun h => c9 (bit_ne h (by decide))), (fun h => c10 (bit_ne h (by decide))), (fun h => c11 (bit_ne h (by decide))), (fun _ _ => VarS.new w B (hsB hbW) _ _), (fun h => absurd (hcl 13 _ rfl (bit_ne h (by decide)) ⟨12, .data⟩ (by simp) rfl) (by rw [hi]; decide)), (fun h => c14 (bit_ne h (by decide)))⟩
    · obtain rfl := Option.some.inj ho
      have hsz : 13 < listed.size := by rw [hls]; decide
      have hdep12 : listed.getD 12 false = true := hall ⟨12, .data⟩ (by simp) (by rfl)
      have hdep10 : listed.getD 10 false = true := hall ⟨10, .data⟩ (by simp) (by rfl)
      obtain rfl := c10 hdep10
      obtain ⟨bV, rfl, rV, hbV⟩ := c12 hdep12 hi
      refine inv_store 24 (.tmp 12) (.tmp 40) rfl rfl rfl rfl bV (zer 32) rfl rfl 24 (zer 32) rV (id_info (zer_len 32)) rfl ?_
      have hbw : Below B w3 (w.setRow bV (v8 (zer 32))) := below_setRow hbW hbV _
      exact ⟨(.pointer (some ⟨bV, 0, none⟩)), s13, s30, s31, s32, s33, s34, s35, s36, s37, s38, s39, (.agg (v8 (zer 32))), s41, rfl, hbw, (fun h => c0 (bit_ne h (by decide))), (fun h => c1 (bit_ne h (by decide))), (fun h => c2 (bit_ne h (by decide))), (fun h => c3 (bit_ne h (by decide))), (fun h => c4 (bit_ne h (by decide))), (fun h => c5 (bit_ne h (by decide))), (fun h => c6 (bit_ne h (by decide))), (fun h => c7 (bit_ne h (by decide))), (fun h => c8 (bit_ne h (by decide))), (fun h => c9 (bit_ne h (by decide))), (fun h => c10 (bit_ne h (by decide))), (fun h => c11 (bit_ne h (by decide))), (fun _ h2 => absurd (bit_on hsz) (by rw [h2]; decide)), (fun _ => ⟨bV, rfl, rV.setRow _, hbV⟩), (fun h => c14 (bit_ne h (by decide)))⟩
    · obtain rfl := Option.some.inj ho
      have hsz : 14 < listed.size := by rw [hls]; decide
      have hdep11 : listed.getD 11 false = true := hall ⟨11, .data⟩ (by simp) (by rfl)
      obtain rfl := c11 hdep11
      have hbw := hbW
      refine inv_val (w' := w) (.int .i64 12) rfl rfl rfl ?_
      exact ⟨s12, (.int .i64 12), s30, s31, s32, s33, s34, s35, s36, s37, s38, s39, s40, (.int .i64 12), rfl, hbw, (fun h => c0 (bit_ne h (by decide))), (fun h => c1 (bit_ne h (by decide))), (fun h => c2 (bit_ne h (by decide))), (fun h => c3 (bit_ne h (by decide))), (fun h => c4 (bit_ne h (by decide))), (fun h => c5 (bit_ne h (by decide))), (fun h => c6 (bit_ne h (by decide))), (fun h => c7 (bit_ne h (by decide))), (fun h => c8 (bit_ne h (by decide))), (fun h => c9 (bit_ne h (by decide))), (fun h => c10 (bit_ne h (by decide))), (fun h => c11 (bit_ne h (by decide))), (fun h h2 => c12 (bit_ne h (by decide)) (bit_ne h2 (by decide))), (fun h => c13 (bit_ne h (by decide))), (fun _ => rfl)⟩
  · intro listed a w hall hJ
    obtain ⟨s12, s13, s30, s31, s32, s33, s34, s35, s36, s37, s38, s39, s40, s41, rfl, hbW, c0, c1, c2, c3, c4, c5, c6, c7, c8, c9, c10, c11, c12, c13, c14⟩ := hJ
    obtain rfl := c0 (hall 0 (by decide))
    obtain rfl := c1 (hall 1 (by decide))
    obtain rfl := c2 (hall 2 (by decide))
    obtain rfl := c3 (hall 3 (by decide))
    obtain rfl := c4 (hall 4 (by decide))
    obtain rfl := c5 (hall 5 (by decide))
    obtain rfl := c6 (hall 6 (by decide))
    obtain rfl := c7 (hall 7 (by decide))
    obtain rfl := c8 (hall 8 (by decide))
    obtain rfl := c9 (hall 9 (by decide))
    obtain rfl := c10 (hall 10 (by decide))
    obtain rfl := c11 (hall 11 (by decide))
    obtain ⟨b13, rfl, r13, hb13⟩ := c13 (hall 13 (by decide))
    obtain rfl := c14 (hall 14 (by decide))
    have y0 := x0.below hbW (by omega)
    have y1 := x1.below hbW (by omega)
    have y2 := x2.below hbW (by omega)
    have yb := xb.trans (hbW.mono (by have := xb.size; omega))
    clear x0 x1 x2 xb hbW r13 c12 hall hb13 hsB hx2 hcut hB
    generalize w = w4 at y0 y1 y2 yb ⊢
    have x0 := y0
    have x1 := y1
    have x2 := y2
    have xb := yb
    clear y0 y1 y2 yb
    have hx2 := x2.lt
    go_upto_region 7 with fail
    obtain ⟨B, hB⟩ : ∃ B, B = w4.heap.size := ⟨_, rfl⟩
    have hsB : ∀ {w : World}, Below B w4 w → B ≤ w.heap.size := fun h => by have := h.size; omega
    refine region_invFA  (by kernel_rfl) (by kernel_rfl) (fun a0 listed a w => ∃ s14 s15 s42 s43 s44 s45 s46 s47 s48 s49 s50 s51 s52 s53 s54, a = (Act.put (Act.put (Act.put (Act.put (Act.put (Act.put (Act.put (Act.put (Act.put (Act.put (Act.put (Act.put (Act.put (Act.put (Act.put a0 (some 14) s14) (some 15) s15) (some 42) s42) (some 43) s43) (some 44) s44) (some 45) s45) (some 46) s46) (some 47) s47) (some 48) s48) (some 49) s49) (some 50) s50) (some 51) s51) (some 52) s52) (some 53) s53) (some 54) s54) ∧ Below B w4 w ∧ (listed.getD 0 false = true → s43 = .agg (v8 nm)) ∧ (listed.getD 1 false = true → s44 = .int .i64 q) ∧ (listed.getD 2 false = true → s45 = .slice mp ml mc) ∧ (listed.getD 3 false = true → listed.getD 5 false = false → OwnS w B s46 0 []) ∧ (listed.getD 4 false = true → s47 = .slice (some ⟨g, 0, none⟩) 4292 4292) ∧ (listed.getD 5 false = true → listed.getD 8 false = false → OwnS w B s48 4292 SG) ∧ (listed.getD 6 false = true → s49 = .int .u8 2) ∧ (listed.getD 7 false = true → listed.getD 8 false = false → LitS w B s50 1 [2]) ∧ (listed.getD 8 false = true → listed.getD 9 false = false → OwnS w B s51 4293 (SG ++ [2])) ∧ (listed.getD 9 false = true → s52 = (.tuple #[.agg (v8 (zer 32)), .int .i64 12])) ∧ (listed.getD 10 false = true → s42 = (.tuple #[.agg (v8 (zer 32)), .int .i64 12])) ∧ (listed.getD 11 false = true → s53 = .agg (v8 (zer 32))) ∧ (listed.getD 12 false = true → s54 = .int .i64 12) ∧ (listed.getD 13 false = true → listed.getD 14 false = false → VarS w B s14 24 (zer 32)) ∧ (listed.getD 14 false = true → VarS w B s14 24 (zer 32)) ∧ (listed.getD 15 false = true → s15 = .int .i64 12) ∧ (listed.getD 7 false = true → listed.getD 8 false = false → listed.getD 3 false = true → listed.getD 5 false = false → s50.ownBlock ≠ s46.ownBlock)) ?_ ?_ ?_
    all_goals simp only [Act.put, List.setIfInBounds_toArray, List.set_cons_succ, List.set_cons_zero]
    · exact ⟨undef, undef, undef, undef, undef, undef, undef, undef, undef, undef, undef, undef, undef, undef, undef, rfl, (Below.refl B _).drew, (fun h => by rw [getD_replicate_false] at h; cases h), (fun h => by rw [getD_replicate_false] at h; cases h), (fun h => by rw [getD_replicate_false] at h; cases h), (fun h => by rw [getD_replicate_false] at h; cases h), (fun h => by rw [getD_replicate_false] at h; cases h), (fun h => by rw [getD_replicate_false] at h; cases h), (fun h => by rw [getD_replicate_false] at h; cases h), (fun h => by rw [getD_replicate_false] at h; cases h), (fun h => by rw [getD_replicate_false] at h; cases h), (fun h => by rw [getD_replicate_false] at h; cases h), (fun h => by rw [getD_replicate_false] at h; cases h), (fun h => by rw [getD_replicate_false] at h; cases h), (fun h => by rw [getD_replicate_false] at h; cases h), (fun h => by rw [getD_replicate_false] at h; cases h), (fun h => by rw [getD_replicate_false] at h; cases h), (fun h => by rw [getD_replicate_false] at h; cases h), (fun h => by rw [getD_replicate_false] at h; cases h)⟩
    · intro listed a w i o hls hJ hin ho hi hall hcl
      obtain ⟨s14, s15, s42, s43, s44, s45, s46, s47, s48, s49, s50, s51, s52, s53, s54, rfl, hbW, c0, c1, c2, c3, c4, c5, c6, c7, c8, c9, c10, c11, c12, c13, c14, c15, d7_3⟩ := hJ
      replace hin : i < 16 := hin
      rcases (by omega : i = 0 ∨ i = 1 ∨ i = 2 ∨ i = 3 ∨ i = 4 ∨ i = 5 ∨ i = 6 ∨ i = 7 ∨ i = 8 ∨ i = 9 ∨ i = 10 ∨ i = 11 ∨ i = 12 ∨ i = 13 ∨ i = 14 ∨ i = 15) with rfl | rfl | rfl | rfl | rfl | rfl | rfl | rfl | rfl | rfl | rfl | rfl | rfl | rfl | rfl | rfl
      · obtain rfl := Option.some.inj ho
        have hsz : 0 < listed.size := by rw [hls]; decide
        have hbw := hbW
        refine inv_val (w' := w) (.agg (v8 nm)) rfl rfl (exec_load_row 22 (.tmp 5) rfl w0.heap.size rfl 22 _ _ (x0.below hbW (by omega)) Tryd.underlying22 rfl (name_info hn)) ?_
        exact ⟨s14, s15, s42, (.agg (v8 nm)), s44, s45, s46, s47, s48, s49, s50, s51, s52, s53, s54, rfl, hbw, (fun _ => rfl), (fun h => c1 (bit_ne h (by decide))), (fun h => c2 (bit_ne h (by decide))), (fun h h2 => c3 (bit_ne h (by decide)) (bit_ne h2 (by decide))), (fun h => c4 (bit_ne h (by decide))), (fun h h2 => c5 (bit_ne h (by decide)) (bit_ne h2 (by decide))), (fun h => c6 (bit_ne h (by decide))), (fun h h2 => c7 (bit_ne h (by decide)) (bit_ne h2 (by decide))), (fun h h2 => c8 (bit_ne h (by decide)) (bit_ne h2 (by decide))), (fun h => c9 (bit_ne h (by decide))), (fun h => c10 (bit_ne h (by decide))), (fun h => c11 (bit_ne h (by decide))), (fun h => c12 (bit_ne h (by decide))), (fun h h2 => c13 (bit_ne h (by decide)) (bit_ne h2 (by decide))), (fun h => c14 (bit_ne h (by decide))), (fun h => c15 (bit_ne h (by decide))), (fun h h2 h3 h4 => d7_3 (bit_ne h (by decide)) (bit_ne h2 (by decide)) (bit_ne h3 (by decide)) (bit_ne h4 (by decide)))⟩
      · obtain rfl := Option.some.inj ho
        have hsz : 1 < listed.size := by rw [hls]; decide
        have hbw := hbW
        refine inv_val (w' := w) (.int .i64 q) rfl rfl rfl ?_
        exact ⟨s14, s15, s42, s43, (.int .i64 q), s45, s46, s47, s48, s49, s50, s51, s52, s53, s54, rfl, hbw, (fun h => c0 (bit_ne h (by decide))), (fun _ => rfl), (fun h => c2 (bit_ne h (by decide))), (fun h h2 => c3 (bit_ne h (by decide)) (bit_ne h2 (by decide))), (fun h => c4 (bit_ne h (by decide))), (fun h h2 => c5 (bit_ne h (by decide)) (bit_ne h2 (by decide))), (fun h => c6 (bit_ne h (by decide))), (fun h h2 => c7 (bit_ne h (by decide)) (bit_ne h2 (by decide))), (fun h h2 => c8 (bit_ne h (by decide)) (bit_ne h2 (by decide))), (fun h => c9 (bit_ne h (by decide))), (fun h => c10 (bit_ne h (by decide))), (fun h => c11 (bit_ne h (by decide))), (fun h => c12 (bit_ne h (by decide))), (fun h h2 => c13 (bit_ne h (by decide)) (bit_ne h2 (by decide))), (fun h => c14 (bit_ne h (by decide))), (fun h => c15 (bit_ne h (by decide))), (fun h h2 h3 h4 => d7_3 (bit_ne h (by decide)) (bit_ne h2 (by decide)) (bit_ne h3 (by decide)) (bit_ne h4 (by decide)))⟩
      · obtain rfl := Option.some.inj ho
        have hsz : 2 < listed.size := by rw [hls]; decide
        have hbw := hbW
        refine inv_val (w' := w) (.slice mp ml mc) rfl rfl rfl ?_
        exact ⟨s14, s15, s42, s43, s44, (.slice mp ml mc), s46, s47, s48, s49, s50, s51, s52, s53, s54, rfl, hbw, (fun h => c0 (bit_ne h (by decide))), (fun h => c1 (bit_ne h (by decide))), (fun _ => rfl), (fun h h2 => c3 (bit_ne h (by decide)) (bit_ne h2 (by decide))), (fun h => c4 (bit_ne h (by decide))), (fun h h2 => c5 (bit_ne h (by decide)) (bit_ne h2 (by decide))), (fun h => c6 (bit_ne h (by decide))), (fun h h2 => c7 (bit_ne h (by decide)) (bit_ne h2 (by decide))), (fun h h2 => c8 (bit_ne h (by decide)) (bit_ne h2 (by decide))), (fun h => c9 (bit_ne h (by decide))), (fun h => c10 (bit_ne h (by decide))), (fun h => c11 (bit_ne h (by decide))), (fun h => c12 (bit_ne h (by decide))), (fun h h2 => c13 (bit_ne h (by decide)) (bit_ne h2 (by decide))), (fun h => c14 (bit_ne h (by decide))), (fun h => c15 (bit_ne h (by decide))), (fun h h2 h3 h4 => d7_3 (bit_ne h (by decide)) (bit_ne h2 (by decide)) (bit_ne h3 (by decide)) (bit_ne h4 (by decide)))⟩
      · obtain rfl := Option.some.inj ho
        have hsz : 3 < listed.size := by rw [hls]; decide
        have hbw : Below B w4 (w.alloc (.cells (v8 []) 5)) := hbW.alloc (hsB hbW) _
        refine inv_val (.slice (some ⟨w.heap.size, 0, none⟩) 0 0) (w' := w.alloc (.cells (v8 []) 5)) rfl rfl (by kernel_rfl) ?_
        have me_d7_3 := fun (h : LitS w B s50 1 [2]) => h.ne_new (m := 0)
        exact ⟨s14, s15, s42, s43, s44, s45, (.slice (some ⟨w.heap.size, 0, none⟩) 0 0), s47, s48, s49, s50, s51, s52, s53, s54, rfl, hbw, (fun h => c0 (bit_ne h (by decide))), (fun h => c1 (bit_ne h (by decide))), (fun h => c2 (bit_ne h (by decide))), (fun _ _ => OwnS.new w B (hsB hbW)), (fun h => c4 (bit_ne h (by decide))), (fun h h2 => (c5 (bit_ne h (by decide)) (bit_ne h2 (by decide))).alloc _), (fun h => c6 (bit_ne h (by decide))), (fun h h2 => (c7 (bit_ne h (by decide)) (bit_ne h2 (by decide))).alloc _), (fun h h2 => (c8 (bit_ne h (by decide)) (bit_ne h2 (by decide))).alloc _), (fun h => c9 (bit_ne h (by decide))), (fun h => c10 (bit_ne h (by decide))), (fun h => c11 (bit_ne h (by decide))), (fun h => c12 (bit_ne h (by decide))), (fun h h2 => (c13 (bit_ne h (by decide)) (bit_ne h2 (by decide))).alloc _), (fun h => (c14 (bit_ne h (by decide))).alloc _), (fun h => c15 (bit_ne h (by decide))), (fun h h2 _ _ => me_d7_3 (c7 (bit_ne h (by decide)) (bit_ne h2 (by decide))))⟩
      · obtain rfl := Option.some.inj ho
        have hsz : 4 < listed.size := by rw [hls]; decide
        have hbw := hbW
        refine inv_val (w' := w) (.slice (some ⟨g, 0, none⟩) 4292 4292) rfl rfl rfl ?_
        exact ⟨s14, s15, s42, s43, s44, s45, s46, (.slice (some ⟨g, 0, none⟩) 4292 4292), s48, s49, s50, s51, s52, s53, s54, rfl, hbw, (fun h => c0 (bit_ne h (by decide))), (fun h => c1 (bit_ne h (by decide))), (fun h => c2 (bit_ne h (by decide))), (fun h h2 => c3 (bit_ne h (by decide)) (bit_ne h2 (by decide))), (fun _ => rfl), (fun h h2 => c5 (bit_ne h (by decide)) (bit_ne h2 (by decide))), (fun h => c6 (bit_ne h (by decide))), (fun h h2 => c7 (bit_ne h (by decide)) (bit_ne h2 (by decide))), (fun h h2 => c8 (bit_ne h (by decide)) (bit_ne h2 (by decide))), (fun h => c9 (bit_ne h (by decide))), (fun h => c10 (bit_ne h (by decide))), (fun h => c11 (bit_ne h (by decide))), (fun h => c12 (bit_ne h (by decide))), (fun h h2 => c13 (bit_ne h (by decide)) (bit_ne h2 (by decide))), (fun h => c14 (bit_ne h (by decide))), (fun h => c15 (bit_ne h (by decide))), (fun h h2 h3 h4 => d7_3 (bit_ne h (by decide)) (bit_ne h2 (by decide)) (bit_ne h3 (by decide)) (bit_ne h4 (by decide)))⟩
      · obtain rfl := Option.some.inj ho
        have hsz : 5 < listed.size := by rw [hls]; decide
        have hdep3 : listed.getD 3 false = true := hall ⟨3, .data⟩ (by simp) (by rfl)
        obtain ⟨sp3, cap3, rfl, o3⟩ := c3 hdep3 hi
        have hdep4 : listed.getD 4 false = true := hall ⟨4, .data⟩ (by simp) (by rfl)
        obtain rfl := c4 hdep4
        refine inv_op rfl rfl (wp8g (.tmp 46) (.tmp 47) 28 5 rfl B Tryd.underlying28 info5 _ [] rfl o3 (some ⟨g, 0, none⟩) 4292 4292 SG rfl hSGl (fun h => by cases h) ((x2.below hbW (by omega)).bytes) (by first | omega | simp | (simp; omega)) (hsB hbW) ?_)
        intro sp cap w' ow hb' hgg
        have hg := Grew.of hgg
        have hbw : Below B w4 w' := hbW.trans hb'
        have hown := o3
        rw [List.nil_append, hSGl] at ow ⊢
        exact ⟨s14, s15, s42, s43, s44, s45, (.slice sp3 0 cap3), (.slice (some ⟨g, 0, none⟩) 4292 4292), (.slice sp 4292 cap), s49, s50, s51, s52, s53, s54, rfl, hbw, (fun h => c0 (bit_ne h (by decide))), (fun h => c1 (bit_ne h (by decide))), (fun h => c2 (bit_ne h (by decide))), (fun _ h2 => absurd (bit_on hsz) (by rw [h2]; decide)), (fun h => c4 (bit_ne h (by decide))), (fun _ _ => ⟨sp, cap, rfl, ow⟩), (fun h => c6 (bit_ne h (by decide))), (fun h h2 => (c7 (bit_ne h (by decide)) (bit_ne h2 (by decide))).grew hg (d7_3 (bit_ne h (by decide)) (bit_ne h2 (by decide)) hdep3 hi)), (fun h _ => absurd (hcl 8 _ rfl (bit_ne h (by decide)) ⟨5, .data⟩ (by simp) rfl) (by rw [hi]; decide)), (fun h => c9 (bit_ne h (by decide))), (fun h => c10 (bit_ne h (by decide))), (fun h => c11 (bit_ne h (by decide))), (fun h => c12 (bit_ne h (by decide))), (fun h h2 => (c13 (bit_ne h (by decide)) (bit_ne h2 (by decide))).grew hg hown (by decide)), (fun h => (c14 (bit_ne h (by decide))).grew hg hown (by decide)), (fun h => c15 (bit_ne h (by decide))), (fun _ _ _ h4 => absurd (bit_on hsz) (by rw [h4]; decide))⟩
      · obtain rfl := Option.some.inj ho
        have hsz : 6 < listed.size := by rw [hls]; decide
        have hbw := hbW
        refine inv_val (w' := w) (.int .u8 2) rfl rfl rfl ?_
        exact ⟨s14, s15, s42, s43, s44, s45, s46, s47, s48, (.int .u8 2), s50, s51, s52, s53, s54, rfl, hbw, (fun h => c0 (bit_ne h (by decide))), (fun h => c1 (bit_ne h (by decide))), (fun h => c2 (bit_ne h (by decide))), (fun h h2 => c3 (bit_ne h (by decide)) (bit_ne h2 (by decide))), (fun h => c4 (bit_ne h (by decide))), (fun h h2 => c5 (bit_ne h (by decide)) (bit_ne h2 (by decide))), (fun _ => rfl), (fun h h2 => c7 (bit_ne h (by decide)) (bit_ne h2 (by decide))), (fun h h2 => c8 (bit_ne h (by decide)) (bit_ne h2 (by decide))), (fun h => c9 (bit_ne h (by decide))), (fun h => c10 (bit_ne h (by decide))), (fun h => c11 (bit_ne h (by decide))), (fun h => c12 (bit_ne h (by decide))), (fun h h2 => c13 (bit_ne h (by decide)) (bit_ne h2 (by decide))), (fun h => c14 (bit_ne h (by decide))), (fun h => c15 (bit_ne h (by decide))), (fun h h2 h3 h4 => d7_3 (bit_ne h (by decide)) (bit_ne h2 (by decide)) (bit_ne h3 (by decide)) (bit_ne h4 (by decide)))⟩
      · obtain rfl := Option.some.inj ho
        have hsz : 7 < listed.size := by rw [hls]; decide
        have hdep6 : listed.getD 6 false = true := hall ⟨6, .data⟩ (by simp) (by rfl)
        obtain rfl := c6 hdep6
        have hbw : Below B w4 (w.alloc (.cells (v8 [2]) 5)) := hbW.alloc (hsB hbW) _
        refine inv_val (.slice (some ⟨w.heap.size, 0, none⟩) 1 1) (w' := w.alloc (.cells (v8 [2]) 5)) rfl rfl (by kernel_rfl) ?_
        exact ⟨s14, s15, s42, s43, s44, s45, s46, s47, s48, (.int .u8 2), (.slice (some ⟨w.heap.size, 0, none⟩) 1 1), s51, s52, s53, s54, rfl, hbw, (fun h => c0 (bit_ne h (by decide))), (fun h => c1 (bit_ne h (by decide))), (fun h => c2 (bit_ne h (by decide))), (fun h h2 => (c3 (bit_ne h (by decide)) (bit_ne h2 (by decide))).alloc _), (fun h => c4 (bit_ne h (by decide))), (fun h h2 => (c5 (bit_ne h (by decide)) (bit_ne h2 (by decide))).alloc _), (fun h => c6 (bit_ne h (by decide))), (fun _ _ => LitS.new w B (hsB hbW) 1 [2] rfl), (fun h h2 => (c8 (bit_ne h (by decide)) (bit_ne h2 (by decide))).alloc _), (fun h => c9 (bit_ne h (by decide))), (fun h => c10 (bit_ne h (by decide))), (fun h => c11 (bit_ne h (by decide))), (fun h => c12 (bit_ne h (by decide))), (fun h h2 => (c13 (bit_ne h (by decide)) (bit_ne h2 (by decide))).alloc _), (fun h => (c14 (bit_ne h (by decide))).alloc _), (fun h => c15 (bit_ne h (by decide))), (fun _ _ h3 h4 => litNew (c3 (bit_ne h3 (by decide)) (bit_ne h4 (by decide))))⟩
      · obtain rfl := Option.some.inj ho
        have hsz : 8 < listed.size := by rw [hls]; decide
        have hdep5 : listed.getD 5 false = true := hall ⟨5, .data⟩ (by simp) (by rfl)
        obtain ⟨sp5, cap5, rfl, o5⟩ := c5 hdep5 hi
        have hdep7 : listed.getD 7 false = true := hall ⟨7, .data⟩ (by simp) (by rfl)
        obtain ⟨b7, rfl, r7, hb7⟩ := c7 hdep7 hi
        refine inv_op rfl rfl (wp8g (.tmp 48) (.tmp 50) 28 5 rfl B Tryd.underlying28 info5 _ SG rfl o5 (some ⟨b7, 0, none⟩) 1 1 [2] rfl rfl (fun h => by cases h) r7.bytes (by first | omega | simp | (simp; omega)) (hsB hbW) ?_)
        intro sp cap w' ow hb' hgg
        have hg := Grew.of hgg
        have hbw : Below B w4 w' := hbW.trans hb'
        have hown := o5
        rw [hSGt] at ow ⊢
        exact ⟨s14, s15, s42, s43, s44, s45, s46, s47, (.slice sp5 4292 cap5), s49, (.slice (some ⟨b7, 0, none⟩) 1 1), (.slice sp 4293 cap), s52, s53, s54, rfl, hbw, (fun h => c0 (bit_ne h (by decide))), (fun h => c1 (bit_ne h (by decide))), (fun h => c2 (bit_ne h (by decide))), (fun _ h2 => absurd hdep5 (by rw [bit_ne h2 (by decide)]; decide)), (fun h => c4 (bit_ne h (by decide))), (fun _ h2 => absurd (bit_on hsz) (by rw [h2]; decide)), (fun h => c6 (bit_ne h (by decide))), (fun _ h2 => absurd (bit_on hsz) (by rw [h2]; decide)), (fun _ _ => ⟨sp, cap, rfl, ow⟩), (fun h => c9 (bit_ne h (by decide))), (fun h => c10 (bit_ne h (by decide))), (fun h => c11 (bit_ne h (by decide))), (fun h => c12 (bit_ne h (by decide))), (fun h h2 => (c13 (bit_ne h (by decide)) (bit_ne h2 (by decide))).grew hg hown (by decide)), (fun h => (c14 (bit_ne h (by decide))).grew hg hown (by decide)), (fun h => c15 (bit_ne h (by decide))), (fun _ h2 _ _ => absurd (bit_on hsz) (by rw [h2]; decide))⟩
      · obtain rfl := Option.some.inj ho
        have hsz : 9 < listed.size := by rw [hls]; decide
        have hdep0 : listed.getD 0 false = true := hall ⟨0, .data⟩ (by simp) (by rfl)
        obtain rfl := c0 hdep0
        have hdep1 : listed.getD 1 false = true := hall ⟨1, .data⟩ (by simp) (by rfl)
        obtain rfl := c1 hdep1
        have hdep2 : listed.getD 2 false = true := hall ⟨2, .data⟩ (by simp) (by rfl)
        obtain rfl := c2 hdep2
        have hdep8 : listed.getD 8 false = true := hall ⟨8, .data⟩ (by simp) (by rfl)
        obtain ⟨sp8, cap8, rfl, o8⟩ := c8 hdep8 hi
        refine inv_call 18 #[.agg (v8 nm), .int .i64 q, .slice mp ml mc, .slice sp8 4293 cap8] _ rfl rfl (by kernel_rfl) (Back_len nm (SG ++ [2]) q mp sp8 ml mc 4293 cap8 w hSGt o8.bytes (by omega)) ?_
        rintro e w' ⟨rfl, hb⟩
        have hbw : Below B w4 w' := hbW.trans (hb.mono (hsB hbW))
        refine ⟨_, rfl, ?_⟩
        exact ⟨s14, s15, s42, (.agg (v8 nm)), (.int .i64 q), (.slice mp ml mc), s46, s47, s48, s49, s50, (.slice sp8 4293 cap8), ((.tuple #[.agg (v8 (zer 32)), .int .i64 12])), s53, s54, rfl, hbw, (fun h => c0 (bit_ne h (by decide))), (fun h => c1 (bit_ne h (by decide))), (fun h => c2 (bit_ne h (by decide))), (fun h h2 => (c3 (bit_ne h (by decide)) (bit_ne h2 (by decide))).below hb), (fun h => c4 (bit_ne h (by decide))), (fun h h2 => (c5 (bit_ne h (by decide)) (bit_ne h2 (by decide))).below hb), (fun h => c6 (bit_ne h (by decide))), (fun h h2 => (c7 (bit_ne h (by decide)) (bit_ne h2 (by decide))).below hb), (fun _ h2 => absurd (bit_on hsz) (by rw [h2]; decide)), (fun _ => rfl), (fun h => c10 (bit_ne h (by decide))), (fun h => c11 (bit_ne h (by decide))), (fun h => c12 (bit_ne h (by decide))), (fun h h2 => (c13 (bit_ne h (by decide)) (bit_ne h2 (by decide))).below hb), (fun h => (c14 (bit_ne h (by decide))).below hb), (fun h => c15 (bit_ne h (by decide))), (fun h h2 h3 h4 => d7_3 (bit_ne h (by decide)) (bit_ne h2 (by decide)) (bit_ne h3 (by decide)) (bit_ne h4 (by decide)))⟩
      · obtain rfl := Option.some.inj ho
        have hsz : 10 < listed.size := by rw [hls]; decide
        have hdep9 : listed.getD 9 false = true := hall ⟨9, .data⟩ (by simp) (by rfl)
        obtain rfl := c9 hdep9
        have hbw := hbW
        refine inv_val (w' := w) (.tuple #[.agg (v8 (zer 32)), .int .i64 12]) rfl rfl rfl ?_
        exact ⟨s14, s15, (.tuple #[.agg (v8 (zer 32)), .int .i64 12]), s43, s44, s45, s46, s47, s48, s49, s50, s51, ((.tuple #[.agg (v8 (zer 32)), .int .i64 12])), s53, s54, rfl, hbw, (fun h => c0 (bit_ne h (by decide))), (fun h => c1 (bit_ne h (by decide))), (fun h => c2 (bit_ne h (by decide))), (fun h h2 => c3 (bit_ne h (by decide)) (bit_ne h2 (by decide))), (fun h => c4 (bit_ne h (by decide))), (fun h h2 => c5 (bit_ne h (by decide)) (bit_ne h2 (by decide))), (fun h => c6 (bit_ne h (by decide))), (fun h h2 => c7 (bit_ne h (by decide)) (bit_ne h2 (by decide))), (fun h h2 => c8 (bit_ne h (by decide)) (bit_ne h2 (by decide))), (fun h => c9 (bit_ne h (by decide))), (fun _ => rfl), (fun h => c11 (bit_ne h (by decide))), (fun h => c12 (bit_ne h (by decide))), (fun h h2 => c13 (bit_ne h (by decide)) (bit_ne h2 (by decide))), (fun h => c14 (bit_ne h (by decide))), (fun h => c15 (bit_ne h (by decide))), (fun h h2 h3 h4 => d7_3 (bit_ne h (by decide)) (bit_ne h2 (by decide)) (bit_ne h3 (by decide)) (bit_ne h4 (by decide)))⟩
      · obtain rfl := Option.some.inj ho
        have hsz : 11 < listed.size := by rw [hls]; decide
        have hdep10 : listed.getD 10 false = true := hall ⟨10, .data⟩ (by simp) (by rfl)
        obtain rfl := c10 hdep10
        have hbw := hbW
        refine inv_val (w' := w) (.agg (v8 (zer 32))) rfl rfl (by kernel_rfl) ?_
        exact ⟨s14, s15, ((.tuple #[.agg (v8 (zer 32)), .int .i64 12])), s43, s44, s45, s46, s47, s48, s49, s50, s51, s52, (.agg (v8 (zer 32))), s54, rfl, hbw, (fun h => c0 (bit_ne h (by decide))), (fun h => c1 (bit_ne h (by decide))), (fun h => c2 (bit_ne h (by decide))), (fun h h2 => c3 (bit_ne h (by decide)) (bit_ne h2 (by decide))), (fun h => c4 (bit_ne h (by decide))), (fun h h2 => c5 (bit_ne h (by decide)) (bit_ne h2 (by decide))), (fun h => c6 (bit_ne h (by decide))), (fun h h2 => c7 (bit_ne h (by decide)) (bit_ne h2 (by decide))), (fun h h2 => c8 (bit_ne h (by decide)) (bit_ne h2 (by decide))), (fun h => c9 (bit_ne h (by decide))), (fun h => c10 (bit_ne h (by decide))), (fun _ => rfl), (fun h => c12 (bit_ne h (by decide))), (fun h h2 => c13 (bit_ne h (by decide)) (bit_ne h2 (by decide))), (fun h => c14 (bit_ne h (by decide))), (fun h => c15 (bit_ne h (by decide))), (fun h h2 h3 h4 => d7_3 (bit_ne h (by decide)) (bit_ne h2 (by decide)) (bit_ne h3 (by decide)) (bit_ne h4 (by decide)))⟩
      · obtain rfl := Option.some.inj ho
        have hsz : 12 < listed.size := by rw [hls]; decide
        have hdep10 : listed.getD 10 false = true := hall ⟨10, .data⟩ (by simp) (by rfl)
        obtain rfl := c10 hdep10
        have hbw := hbW
        refine inv_val (w' := w) (.int .i64 12) rfl rfl (by kernel_rfl) ?_
        exact ⟨s14, s15, ((.tuple #[.agg (v8 (zer 32)), .int .i64 12])), s43, s44, s45, s46, s47, s48, s49, s50, s51, s52, s53, (.int .i64 12), rfl, hbw, (fun h => c0 (bit_ne h (by decide))), (fun h => c1 (bit_ne h (by decide))), (fun h => c2 (bit_ne h (by decide))), (fun h h2 => c3 (bit_ne h (by decide)) (bit_ne h2 (by decide))), (fun h => c4 (bit_ne h (by decide))), (fun h h2 => c5 (bit_ne h (by decide)) (bit_ne h2 (by decide))), (fun h => c6 (bit_ne h (by decide))), (fun h h2 => c7 (bit_ne h (by decide)) (bit_ne h2 (by decide))), (fun h h2 => c8 (bit_ne h (by decide)) (bit_ne h2 (by decide))), (fun h => c9 (bit_ne h (by decide))), (fun h => c10 (bit_ne h (by decide))), (fun h => c11 (bit_ne h (by decide))), (fun _ => rfl), (fun h h2 => c13 (bit_ne h (by decide)) (bit_ne h2 (by decide))), (fun h => c14 (bit_ne h (by decide))), (fun h => c15 (bit_ne h (by decide))), (fun h h2 h3 h4 => d7_3 (bit_ne h (by decide)) (bit_ne h2 (by decide)) (bit_ne h3 (by decide)) (bit_ne h4 (by decide)))⟩
      · obtain rfl := Option.some.inj ho
        have hsz : 13 < listed.size := by rw [hls]; decide
        have hbw : Below B w4 (w.alloc (.cells (v8 (zer 32)) 24)) := hbW.alloc (hsB hbW) _
        refine inv_val (.pointer (some ⟨w.heap.size, 0, none⟩)) (w' := w.alloc (.cells (v8 (zer 32)) 24)) rfl rfl (by kernel_rfl) ?_
        exact ⟨(.pointer (some ⟨w.heap.size, 0, none⟩)), s15, s42, s43, s44, s45, s46, s47, s48, s49, s50, s51, s52, s53, s54, rfl, hbw, (fun h => c0 (bit_ne h (by decide))), (fun h => c1 (bit_ne h (by decide))), (fun h => c2 (bit_ne h (by decide))), (fun h h2 => (c3 (bit_ne h (by decide)) (bit_ne h2 (by decide))).alloc _), (fun h => c4 (bit_ne h (by decide))), (fun h h2 => (c5 (bit_ne h (by decide)) (bit_ne h2 (by decide))).alloc _), (fun h => c6 (bit_ne h (by decide))), (fun h h2 => (c7 (bit_ne h (by decide)) (bit_ne h2 (by decide))).alloc _), (fun h h2 => (c8 (bit_ne h (by decide)) (bit_ne h2 (by decide))).alloc _), (fun h => c9 (bit_ne h (by decide))), (fun h => c10 (bit_ne h (by decide))), (fun h => c11 (bit_ne h (by decide))), (fun h => c12 (bit_ne h (by decide))), (fun _ _ => VarS.new w B (hsB hbW) _ _), (fun h => absurd (hcl 14 _ rfl (bit_ne h (by decide)) ⟨13, .data⟩ (by simp) rfl) (by rw [hi]; decide)), (fun h => c15 (bit_ne h (by decide))), (fun h h2 h3 h4 => d7_3 (bit_ne h (by decide)) (bit_ne h2 (by decide)) (bit_ne h3 (by decide)) (bit_ne h4 (by decide)))⟩
      · obtain rfl := Option.some.inj ho
        have hsz : 14 < listed.size := by rw [hls]; decide
        have hdep13 : listed.getD 13 false = true := hall ⟨13, .data⟩ (by simp) (by rfl)
        have hdep11 : listed.getD 11 false = true := hall ⟨11, .data⟩ (by simp) (by rfl)
        obtain rfl := c11 hdep11
        obtain ⟨bV, rfl, rV, hbV⟩ := c13 hdep13 hi
        refine inv_store 24 (.tmp 14) (.tmp 53) rfl rfl rfl rfl bV (zer 32) rfl rfl 24 (zer 32) rV (id_info (zer_len 32)) rfl ?_
        have hbw : Below B w4 (w.setRow bV (v8 (zer 32))) := below_setRow hbW hbV _
        exact ⟨(.pointer (some ⟨bV, 0, none⟩)), s15, s42, s43, s44, s45, s46, s47, s48, s49, s50, s51, s52, (.agg (v8 (zer 32))), s54, rfl, hbw, (fun h => c0 (bit_ne h (by decide))), (fun h => c1 (bit_ne h (by decide))), (fun h => c2 (bit_ne h (by decide))), (fun h h2 => (c3 (bit_ne h (by decide)) (bit_ne h2 (by decide))).setVar rV (by decide)), (fun h => c4 (bit_ne h (by decide))), (fun h h2 => (c5 (bit_ne h (by decide)) (bit_ne h2 (by decide))).setVar rV (by decide)), (fun h => c6 (bit_ne h (by decide))), (fun h h2 => (c7 (bit_ne h (by decide)) (bit_ne h2 (by decide))).setVar rV (by decide)), (fun h h2 => (c8 (bit_ne h (by decide)) (bit_ne h2 (by decide))).setVar rV (by decide)), (fun h => c9 (bit_ne h (by decide))), (fun h => c10 (bit_ne h (by decide))), (fun h => c11 (bit_ne h (by decide))), (fun h => c12 (bit_ne h (by decide))), (fun _ h2 => absurd (bit_on hsz) (by rw [h2]; decide)), (fun _ => ⟨bV, rfl, rV.setRow _, hbV⟩), (fun h => c15 (bit_ne h (by decide))), (fun h h2 h3 h4 => d7_3 (bit_ne h (by decide)) (bit_ne h2 (by decide)) (bit_ne h3 (by decide)) (bit_ne h4 (by decide)))⟩
      · obtain rfl := Option.some.inj ho
        have hsz : 15 < listed.size := by rw [hls]; decide
        have hdep12 : listed.getD 12 false = true := hall ⟨12, .data⟩ (by simp) (by rfl)
        obtain rfl := c12 hdep12
        have hbw := hbW
        refine inv_val (w' := w) (.int .i64 12) rfl rfl rfl ?_
        exact ⟨s14, (.int .i64 12), s42, s43, s44, s45, s46, s47, s48, s49, s50, s51, s52, s53, (.int .i64 12), rfl, hbw, (fun h => c0 (bit_ne h (by decide))), (fun h => c1 (bit_ne h (by decide))), (fun h => c2 (bit_ne h (by decide))), (fun h h2 => c3 (bit_ne h (by decide)) (bit_ne h2 (by decide))), (fun h => c4 (bit_ne h (by decide))), (fun h h2 => c5 (bit_ne h (by decide)) (bit_ne h2 (by decide))), (fun h => c6 (bit_ne h (by decide))), (fun h h2 => c7 (bit_ne h (by decide)) (bit_ne h2 (by decide))), (fun h h2 => c8 (bit_ne h (by decide)) (bit_ne h2 (by decide))), (fun h => c9 (bit_ne h (by decide))), (fun h => c10 (bit_ne h (by decide))), (fun h => c11 (bit_ne h (by decide))), (fun h => c12 (bit_ne h (by decide))), (fun h h2 => c13 (bit_ne h (by decide)) (bit_ne h2 (by decide))), (fun h => c14 (bit_ne h (by decide))), (fun _ => rfl), (fun h h2 h3 h4 => d7_3 (bit_ne h (by decide)) (bit_ne h2 (by decide)) (bit_ne h3 (by decide)) (bit_ne h4 (by decide)))⟩
    · intro listed a w hall hJ
      obtain ⟨s14, s15, s42, s43, s44, s45, s46, s47, s48, s49, s50, s51, s52, s53, s54, rfl, hbW, c0, c1, c2, c3, c4, c5, c6, c7, c8, c9, c10, c11, c12, c13, c14, c15, d7_3⟩ := hJ
      obtain rfl := c0 (hall 0 (by decide))
      obtain rfl := c1 (hall 1 (by decide))
      obtain rfl := c2 (hall 2 (by decide))
      obtain rfl := c4 (hall 4 (by decide))
      obtain rfl := c6 (hall 6 (by decide))
      obtain rfl := c9 (hall 9 (by decide))
      obtain rfl := c10 (hall 10 (by decide))
      obtain rfl := c11 (hall 11 (by decide))
      obtain rfl := c12 (hall 12 (by decide))
      obtain ⟨b14, rfl, r14, hb14⟩ := c14 (hall 14 (by decide))
      obtain rfl := c15 (hall 15 (by decide))
      have y0 := x0.below hbW (by omega)
      have y1 := x1.below hbW (by omega)
      have y2 := x2.below hbW (by omega)
      have yb := xb.trans (hbW.mono (by have := xb.size; omega))
      clear x0 x1 x2 xb hbW r14 c3 c5 c7 c8 c13 d7_3 hall hb14 hsB hB
      generalize w = w5 at y0 y1 y2 yb ⊢
      have hB3 := hok w5 (hL.below yb) (hmb.below yb) y2.bytes
      have hy2 := y2.lt
      go_upto_region 9 with (first | (refine wpList_load_row (by rfl) 22 (.tmp 5) (by rfl) w0.heap.size (by rfl) 22 (v8 nm) (0, 0) _ y0 Tryd.underlying22 rfl (name_info hn) ?_) | (go_at_call 18; (with_reducible refine Calls.mono hB3 ?_); rintro e w6 ⟨rfl, hb6⟩) | (refine store_row0 24 (.tmp 16) (.tmp 61) (by rfl) (by rfl) (by rfl) w6.heap.size (v8 PK) (by rfl) (by rfl) 24 (v8 (zer 32)) (Row.new w6 24 _) (id_info hPKl) (by rw [v8_size, v8_size, hPKl, zer_len]) (v8_one _) ?_))
      have hs6 := hb6.size
      have u0 := ((y0.below hb6 (by omega)).alloc (.cells (v8 (zer 32)) 24)).setRowOther (g := w6.heap.size) (by omega) (v8 PK)
      have u1 := ((y1.below hb6 (by omega)).alloc (.cells (v8 (zer 32)) 24)).setRowOther (g := w6.heap.size) (by omega) (v8 PK)
      have u2 := ((y2.below hb6 (by omega)).alloc (.cells (v8 (zer 32)) 24)).setRowOther (g := w6.heap.size) (by omega) (v8 PK)
      have u3 := (Row.new w6 24 (v8 (zer 32))).setRow (v8 PK)
      have ub : Below w0.heap.size w0 ((w6.alloc (.cells (v8 (zer 32)) 24)).setRow w6.heap.size (v8 PK)) := below_setRow ((yb.trans (hb6.mono yb.size)).alloc (by have := yb.size; omega) _) (by have := yb.size; omega) _
      obtain ⟨gk, hgk⟩ : ∃ gk, gk = w6.heap.size := ⟨_, rfl⟩
      have hgk2 : g < gk ∧ w0.heap.size + 1 < gk := by omega
      change Code.wp _ _ _ _ ((w6.alloc (.cells (v8 (zer 32)) 24)).setRow w6.heap.size (v8 PK))
      rw [← hgk] at u0 u1 u2 u3 ub ⊢
      generalize (w6.alloc (.cells (v8 (zer 32)) 24)).setRow gk (v8 PK) = w7 at u0 u1 u2 u3 ub ⊢
      clear hgk y0 y1 y2 yb hb6 hs6 hB3 hy2
      have c1 : w7.cell? ⟨g, 3, none⟩ = some _ := u2.cell8 (by rw [hSGl]; omega)
      have f1 : w7.frozen? ⟨g, 3, none⟩ = false := u2.frozen
      have v0 := u0.setOther (a := ⟨g, 3, none⟩) (by show w0.heap.size ≠ g; omega) (.int .u8 2)
      have v1 := u1.setOther (a := ⟨g, 3, none⟩) (by show w0.heap.size + 1 ≠ g; omega) (.int .u8 2)
      have v2 := u2.set8 3 2
      have v3 := u3.setOther (a := ⟨g, 3, none⟩) (by show gk ≠ g; omega) (.int .u8 2)
      have vb := ub.setCell (p := ⟨g, 3, none⟩) (by show w0.heap.size ≤ g; omega) (.int .u8 2)
      go_upto_region 10 with fail
      generalize w7.setCell ⟨g, 3, none⟩ (.int .u8 2) = w8 at v0 v1 v2 v3 vb ⊢
      clear u0 u1 u2 u3 ub c1 f1
      have hB4 := h4 w8 (hL.below vb) (hmb.below vb) v2.bytes
      have hv3 := v3.lt
      go_upto_region 11 with (first | (refine wpList_load_row (by rfl) 22 (.tmp 5) (by rfl) w0.heap.size (by rfl) 22 (v8 nm) (0, 0) _ v0 Tryd.underlying22 rfl (name_info hn) ?_) | (go_at_call 18; (with_reducible refine Calls.mono hB4 ?_); rintro e w9 ⟨rfl, hb9⟩) | (refine store_row0 24 (.tmp 18) (.tmp 72) (by rfl) (by rfl) (by rfl) w9.heap.size (v8 HV) (by rfl) (by rfl) 24 (v8 (zer 32)) (Row.new w9 24 _) (id_info hHVl) (by rw [v8_size, v8_size, hHVl, zer_len]) (v8_one _) ?_))
      have hs9 := hb9.size
      have m0 := ((v0.below hb9 v0.lt).alloc (.cells (v8 (zer 32)) 24)).setRowOther (g := w9.heap.size) (by have := v0.lt; omega) (v8 HV)
      have m1 := ((v1.below hb9 v1.lt).alloc (.cells (v8 (zer 32)) 24)).setRowOther (g := w9.heap.size) (by have := v1.lt; omega) (v8 HV)
      have m3 := ((v3.below hb9 v3.lt).alloc (.cells (v8 (zer 32)) 24)).setRowOther (g := w9.heap.size) (by have := v3.lt; omega) (v8 HV)
      have mb : Below w0.heap.size w0 ((w9.alloc (.cells (v8 (zer 32)) 24)).setRow w9.heap.size (v8 HV)) := below_setRow ((vb.trans (hb9.mono vb.size)).alloc (by have := vb.size; omega) _) (by have := vb.size; omega) _
      change Code.wp _ _ _ _ ((w9.alloc (.cells (v8 (zer 32)) 24)).setRow w9.heap.size (v8 HV))
      generalize (w9.alloc (.cells (v8 (zer 32)) 24)).setRow w9.heap.size (v8 HV) = wA at m0 m1 m3 mb ⊢
      clear v0 v1 v2 v3 vb hb9 hs9 hB4
      refine region_tail 25 (by kernel_rfl) (by kernel_rfl) (by kernel_rfl) ?_
      apply Exists.intro
      refine ⟨fun ι _ W hb hc => ?_, fun wB hbB => ?_⟩
      · have t0 : ∀ i, Row (W i) w0.heap.size 22 (v8 nm) := fun i => m0.below (hb i) m0.lt
        have t1 : ∀ i, Row (W i) (w0.heap.size + 1) 24 (v8 seed) := fun i => m1.below (hb i) m1.lt
        have t3 : ∀ i, Row (W i) gk 24 (v8 PK) := fun i => m3.below (hb i) m3.lt
        have tL : ∀ i, Laid (W i) := fun i => hL.below (mb.trans ((hb i).mono mb.size))
        simp only [List.take_succ_cons, List.take_zero]
        iterate 11 (go_big_quiet_step (fail))
        refine q_load_rowW 24 (.tmp 16) (by rfl) (by kernel_rfl) gk (by rfl) 24 _ _ t3 Tryd.underlying24 rfl (id_info hPKl) ?_
        simp only [Act.put, List.setIfInBounds_toArray, List.set_cons_succ, List.set_cons_zero]
        refine q_load_rowW 22 (.tmp 5) (by rfl) (by kernel_rfl) w0.heap.size (by rfl) 22 _ _ t0 Tryd.underlying22 rfl (name_info hn) ?_
        simp only [Act.put, List.setIfInBounds_toArray, List.set_cons_succ, List.set_cons_zero]
        go_big_quiet_step (fail)
        refine q_load_rowW 24 (.tmp 7) (by rfl) (by kernel_rfl) (w0.heap.size + 1) (by rfl) 24 _ _ t1 Tryd.underlying24 rfl (id_info hs) ?_
        simp only [Act.put, List.setIfInBounds_toArray, List.set_cons_succ, List.set_cons_zero]
        go_big_quiet_step ((go_at_call 15; exact (hP _ (tL _)).mono (fun e w' ⟨he, hw⟩ => ⟨he, hc _ _ hw⟩)))
        repeat (go_big_quiet_step (fail))
        exact wpQuiet_nil rfl
      · simp only [List.drop_succ_cons, List.drop_zero]
        go_wp2
        go_ret
        exact ⟨rfl, mb.trans (hbB.mono mb.size)⟩
end Go.Proofs.YtoebnkepeledmaaDoor
