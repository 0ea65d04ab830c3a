/- LmsKeys returns true and turns no old memory, for any name, seed and height. -/
import Derived.Test.YtoebnkepeledmaaDoorGk
namespace Go.Proofs.YtoebnkepeledmaaDoor
open Go Go.RowKit

theorem run_str (w : World) (sp : Option Addr) (n cap : Nat) (cs : List Int) (hn : cs.length = n) (hb : Bytes w sp cs) : (convert 28 9 (.slice sp n cap)).run Tryd.prog w = .ok (.string (strOfNums cs)) w := by
  subst hn
  by_cases h : 0 < cs.length
  · obtain ⟨b, o, rfl, hc⟩ := hb h
    exact run_convert_bytes_arg w 28 5 Tryd.underlying28 Tryd.underlying5 b o _ cap cs rfl hc 9 Tryd.underlying9
  · have h0 : cs = [] := List.eq_nil_of_length_eq_zero (by omega)
    subst h0
    rw [run_convert_bytes_string w 28 9 5 sp _ cap Tryd.underlying28 Tryd.underlying5 Tryd.underlying9]
    cases sp <;> simp [Conv.bytesToString, strOfNums, loadCells, loadCellsFrom] <;> rfl

set_option maxRecDepth 20000 in
set_option maxHeartbeats 1000000 in
theorem keys6_small (S : List Int → List Int) (hS : Hash S) (nm seed : List Int) (k : Nat) (w : World) (hL : Laid w) (hn : nm.length = 16) (hs : seed.length = 32) (hk1 : 1 ≤ k) (hk3 : k ≤ 3) :
    Calls Tryd.prog 8 #[.agg (v8 nm), .agg (v8 seed), .int .i64 (k : Int)] w fun e w' => e = .returned (.bool true) ∧ Below w.heap.size w w' := by
  have hK : ∀ wx, Laid wx → Calls Tryd.prog 21 #[] wx fun e w' => e = .returned (.bool true) ∧ Below wx.heap.size wx w' := fun wx hl => known6_any S hS wx hl
  have hP : ∀ wx, Laid wx → Calls Tryd.prog 22 #[.agg (v8 nm), .agg (v8 seed), .int .i64 (k : Int)] wx fun e w' => ∃ sp cap, e = .returned (.tuple #[.slice sp 56 cap, .int .i64 0]) ∧ Own8 w' wx.heap.size 5 (.slice sp 56 cap) (keyL (k : Int) nm (nodeN S nm seed (2 ^ k) 1)) ∧ Below wx.heap.size wx w' := fun wx hl => lPublic_any S hS nm seed k wx hl hn hs (by omega) (by omega)
  have hR : ∀ wx, Calls Tryd.prog 23 #[.agg (v8 nm), .agg (v8 seed), .int .i64 (k : Int)] wx fun e w' => ∃ sp cap, e = .returned (.tuple #[.slice sp 56 cap, .int .i64 0]) ∧ Own8 w' wx.heap.size 5 (.slice sp 56 cap) (keyL (k : Int) nm (nodeN S nm seed (2 ^ k) 1)) ∧ Below wx.heap.size wx w' := fun wx => sixPublic_any S hS nm seed k wx hn hs (by omega) (by omega)
  have hKl : (keyL (k : Int) nm (nodeN S nm seed (2 ^ k) 1)).length = 56 := keyL_len hn (nodeN_len (fun l => hS.len l) _ _ _ _)
  generalize keyL (k : Int) nm (nodeN S nm seed (2 ^ k) 1) = KEY at *
  have hq := fun wx sp cap hb => run_str wx sp 56 cap KEY hKl hb
  have eR : ((strOfNums KEY).toList == (strOfNums KEY).toList) = true := by simp
  have t1 : ¬ ((k : Int) > 3) := by omega
  go_enter Tryd.func8, Tryd.ntmps8
  go_upto_region 1 with fail
  have r0 : Row (World.alloc (World.alloc w (.cells (v8 nm) 22)) (.cells (v8 seed) 24)) w.heap.size 22 (v8 nm) := (Row.new _ _ _).alloc _
  have r1 : Row (World.alloc (World.alloc w (.cells (v8 nm) 22)) (.cells (v8 seed) 24)) (w.heap.size + 1) 24 (v8 seed) := Row.newAt _ _ _ _ (by simp)
  have b1 : Below w.heap.size w (World.alloc (World.alloc w (.cells (v8 nm) 22)) (.cells (v8 seed) 24)) := ((Below.refl _ _).alloc (Nat.le_refl _) _).alloc (by simp) _
  change Code.wp _ _ _ _ ((World.alloc (World.alloc w (.cells (v8 nm) 22)) (.cells (v8 seed) 24)))
  generalize (World.alloc (World.alloc w (.cells (v8 nm) 22)) (.cells (v8 seed) 24)) = w1 at r0 r1 b1 ⊢
  go_upto_region 5 with (first | (go_at_call 21; (with_reducible refine Calls.mono (hK _ (hL.below b1)) ?_); rintro e w2 ⟨rfl, hb2⟩; have p0 := r0.below hb2 r0.lt; have p1 := r1.below hb2 r1.lt; have pb := b1.trans (hb2.mono b1.size)))
  clear r0 r1 b1 hb2 hK
  go_upto_region 6 with (first | (refine wpList_load_row (by rfl) 22 (.tmp 3) (by rfl) w.heap.size (by rfl) 22 (v8 nm) (0, 0) _ p0 Tryd.underlying22 rfl (name_info hn) ?_) | (refine wpList_load_row (by rfl) 24 (.tmp 4) (by rfl) (w.heap.size + 1) (by rfl) 24 (v8 seed) (0, 0) _ p1 Tryd.underlying24 rfl (id_info hs) ?_) | (go_at_call 22; (with_reducible refine Calls.mono (hP _ (hL.below pb)) ?_); rintro e w3 ⟨sp3, cap3, rfl, o3, hb3⟩))
  have q0 := p0.below hb3 p0.lt
  have q1 := p1.below hb3 p1.lt
  have qb := pb.trans (hb3.mono pb.size)
  go_upto_region 7 with (first | (refine wpList_load_row (by rfl) 22 (.tmp 3) (by rfl) w.heap.size (by rfl) 22 (v8 nm) (0, 0) _ q0 Tryd.underlying22 rfl (name_info hn) ?_) | (refine wpList_load_row (by rfl) 24 (.tmp 4) (by rfl) (w.heap.size + 1) (by rfl) 24 (v8 seed) (0, 0) _ q1 Tryd.underlying24 rfl (id_info hs) ?_) | (go_at_call 23; (with_reducible refine Calls.mono (hR _) ?_); rintro e w4 ⟨sp4, cap4, rfl, o4, hb4⟩))
  have e3 := hq w4 sp3 cap3 (o3.below hb4 (Nat.le_refl _)).bytes
  have e4 := hq w4 sp4 cap4 o4.bytes
  go_wp2
  go_ret
  exact ⟨rfl, qb.trans (hb4.mono qb.size)⟩
set_option maxRecDepth 20000 in
set_option maxHeartbeats 1000000 in
theorem keys6_three (S : List Int → List Int) (hS : Hash S) (nm seed : List Int) (h : Int) (w : World) (hL : Laid w) (hn : nm.length = 16) (hs : seed.length = 32) (hk1 : h > 3) (hk3 : h < 6) :
    Calls Tryd.prog 8 #[.agg (v8 nm), .agg (v8 seed), .int .i64 h] w fun e w' => e = .returned (.bool true) ∧ Below w.heap.size w w' := by
  have hK : ∀ wx, Laid wx → Calls Tryd.prog 21 #[] wx fun e w' => e = .returned (.bool true) ∧ Below wx.heap.size wx w' := fun wx hl => known6_any S hS wx hl
  have hP : ∀ wx, Laid wx → Calls Tryd.prog 22 #[.agg (v8 nm), .agg (v8 seed), .int .i64 3] wx fun e w' => ∃ sp cap, e = .returned (.tuple #[.slice sp 56 cap, .int .i64 0]) ∧ Own8 w' wx.heap.size 5 (.slice sp 56 cap) (keyL 3 nm (nodeN S nm seed (2 ^ 3) 1)) ∧ Below wx.heap.size wx w' := fun wx hl => lPublic_any S hS nm seed 3 wx hl hn hs (by omega) (by omega)
  have hR : ∀ wx, Calls Tryd.prog 23 #[.agg (v8 nm), .agg (v8 seed), .int .i64 3] wx fun e w' => ∃ sp cap, e = .returned (.tuple #[.slice sp 56 cap, .int .i64 0]) ∧ Own8 w' wx.heap.size 5 (.slice sp 56 cap) (keyL 3 nm (nodeN S nm seed (2 ^ 3) 1)) ∧ Below wx.heap.size wx w' := fun wx => sixPublic_any S hS nm seed 3 wx hn hs (by omega) (by omega)
  have hKl : (keyL 3 nm (nodeN S nm seed (2 ^ 3) 1)).length = 56 := keyL_len hn (nodeN_len (fun l => hS.len l) _ _ _ _)
  generalize keyL 3 nm (nodeN S nm seed (2 ^ 3) 1) = KEY at *
  have hq := fun wx sp cap hb => run_str wx sp 56 cap KEY hKl hb
  have eR : ((strOfNums KEY).toList == (strOfNums KEY).toList) = true := by simp
  go_enter Tryd.func8, Tryd.ntmps8
  go_upto_region 1 with fail
  have r0 : Row (World.alloc (World.alloc w (.cells (v8 nm) 22)) (.cells (v8 seed) 24)) w.heap.size 22 (v8 nm) := (Row.new _ _ _).alloc _
  have r1 : Row (World.alloc (World.alloc w (.cells (v8 nm) 22)) (.cells (v8 seed) 24)) (w.heap.size + 1) 24 (v8 seed) := Row.newAt _ _ _ _ (by simp)
  have b1 : Below w.heap.size w (World.alloc (World.alloc w (.cells (v8 nm) 22)) (.cells (v8 seed) 24)) := ((Below.refl _ _).alloc (Nat.le_refl _) _).alloc (by simp) _
  change Code.wp _ _ _ _ ((World.alloc (World.alloc w (.cells (v8 nm) 22)) (.cells (v8 seed) 24)))
  generalize (World.alloc (World.alloc w (.cells (v8 nm) 22)) (.cells (v8 seed) 24)) = w1 at r0 r1 b1 ⊢
  go_upto_region 5 with (first | (go_at_call 21; (with_reducible refine Calls.mono (hK _ (hL.below b1)) ?_); rintro e w2 ⟨rfl, hb2⟩; have p0 := r0.below hb2 r0.lt; have p1 := r1.below hb2 r1.lt; have pb := b1.trans (hb2.mono b1.size)))
  clear r0 r1 b1 hb2 hK
  go_upto_region 6 with (first | (refine wpList_load_row (by rfl) 22 (.tmp 3) (by rfl) w.heap.size (by rfl) 22 (v8 nm) (0, 0) _ p0 Tryd.underlying22 rfl (name_info hn) ?_) | (refine wpList_load_row (by rfl) 24 (.tmp 4) (by rfl) (w.heap.size + 1) (by rfl) 24 (v8 seed) (0, 0) _ p1 Tryd.underlying24 rfl (id_info hs) ?_) | (go_at_call 22; (with_reducible refine Calls.mono (hP _ (hL.below pb)) ?_); rintro e w3 ⟨sp3, cap3, rfl, o3, hb3⟩))
  have q0 := p0.below hb3 p0.lt
  have q1 := p1.below hb3 p1.lt
  have qb := pb.trans (hb3.mono pb.size)
  go_upto_region 7 with (first | (refine wpList_load_row (by rfl) 22 (.tmp 3) (by rfl) w.heap.size (by rfl) 22 (v8 nm) (0, 0) _ q0 Tryd.underlying22 rfl (name_info hn) ?_) | (refine wpList_load_row (by rfl) 24 (.tmp 4) (by rfl) (w.heap.size + 1) (by rfl) 24 (v8 seed) (0, 0) _ q1 Tryd.underlying24 rfl (id_info hs) ?_) | (go_at_call 23; (with_reducible refine Calls.mono (hR _) ?_); rintro e w4 ⟨sp4, cap4, rfl, o4, hb4⟩))
  have e3 := hq w4 sp3 cap3 (o3.below hb4 (Nat.le_refl _)).bytes
  have e4 := hq w4 sp4 cap4 o4.bytes
  go_wp2
  go_ret
  exact ⟨rfl, qb.trans (hb4.mono qb.size)⟩
set_option maxRecDepth 20000 in
set_option maxHeartbeats 1000000 in
theorem keys6_bad (S : List Int → List Int) (hS : Hash S) (nm seed : List Int) (h : Int) (w : World) (hL : Laid w) (hn : nm.length = 16) (hs : seed.length = 32) (hh : ¬ (1 ≤ h ∧ h ≤ 5)) :
    Calls Tryd.prog 8 #[.agg (v8 nm), .agg (v8 seed), .int .i64 h] w fun e w' => e = .returned (.bool true) ∧ Below w.heap.size w w' := by
  have hK : ∀ wx, Laid wx → Calls Tryd.prog 21 #[] wx fun e w' => e = .returned (.bool true) ∧ Below wx.heap.size wx w' := fun wx hl => known6_any S hS wx hl
  have hP := fun wx => lPublic_bad nm seed h wx hh
  have hR := fun wx => sixPublic_bad nm seed h wx hh
  have hq := fun wx => run_str wx none 0 0 [] rfl (Bytes.nil _ _)
  have eR : ((strOfNums []).toList == (strOfNums []).toList) = true := by simp
  have hpar : ¬ (h > 3) ∨ (h > 3 ∧ ¬ (h < 6)) := by omega
  clear hh
  rcases hpar with t1 | ⟨t1, t2⟩
  all_goals
    go_enter Tryd.func8, Tryd.ntmps8
    go_upto_region 1 with fail
    have r0 : Row (World.alloc (World.alloc w (.cells (v8 nm) 22)) (.cells (v8 seed) 24)) w.heap.size 22 (v8 nm) := (Row.new _ _ _).alloc _
    have r1 : Row (World.alloc (World.alloc w (.cells (v8 nm) 22)) (.cells (v8 seed) 24)) (w.heap.size + 1) 24 (v8 seed) := Row.newAt _ _ _ _ (by simp)
    have b1 : Below w.heap.size w (World.alloc (World.alloc w (.cells (v8 nm) 22)) (.cells (v8 seed) 24)) := ((Below.refl _ _).alloc (Nat.le_refl _) _).alloc (by simp) _
    change Code.wp _ _ _ _ ((World.alloc (World.alloc w (.cells (v8 nm) 22)) (.cells (v8 seed) 24)))
    generalize (World.alloc (World.alloc w (.cells (v8 nm) 22)) (.cells (v8 seed) 24)) = w1 at r0 r1 b1 ⊢
    go_upto_region 5 with (first | (go_at_call 21; (with_reducible refine Calls.mono (hK _ (hL.below b1)) ?_); rintro e w2 ⟨rfl, hb2⟩; have p0 := r0.below hb2 r0.lt; have p1 := r1.below hb2 r1.lt; have pb := b1.trans (hb2.mono b1.size)))
    clear r0 r1 b1 hb2 hK
    go_upto_region 6 with (first | (refine wpList_load_row (by rfl) 22 (.tmp 3) (by rfl) w.heap.size (by rfl) 22 (v8 nm) (0, 0) _ p0 Tryd.underlying22 rfl (name_info hn) ?_) | (refine wpList_load_row (by rfl) 24 (.tmp 4) (by rfl) (w.heap.size + 1) (by rfl) 24 (v8 seed) (0, 0) _ p1 Tryd.underlying24 rfl (id_info hs) ?_) | (go_at_call 22; (with_reducible refine Calls.mono (hP _) ?_); rintro e w3 ⟨rfl, hb3⟩))
    have q0 := p0.below hb3 p0.lt
    have q1 := p1.below hb3 p1.lt
    have qb := pb.trans (hb3.mono pb.size)
    go_upto_region 7 with (first | (refine wpList_load_row (by rfl) 22 (.tmp 3) (by rfl) w.heap.size (by rfl) 22 (v8 nm) (0, 0) _ q0 Tryd.underlying22 rfl (name_info hn) ?_) | (refine wpList_load_row (by rfl) 24 (.tmp 4) (by rfl) (w.heap.size + 1) (by rfl) 24 (v8 seed) (0, 0) _ q1 Tryd.underlying24 rfl (id_info hs) ?_) | (go_at_call 23; (with_reducible refine Calls.mono (hR _) ?_); rintro e w4 ⟨rfl, hb4⟩))
    go_wp2
    go_ret
    exact ⟨rfl, qb.trans (hb4.mono qb.size)⟩
theorem keys6_any (S : List Int → List Int) (hS : Hash S) (nm seed : List Int) (h : Int) (w : World) (hL : Laid w) (hn : nm.length = 16) (hs : seed.length = 32) :
    Calls Tryd.prog 8 #[.agg (v8 nm), .agg (v8 seed), .int .i64 h] w fun e w' => e = .returned (.bool true) ∧ Below w.heap.size w w' := by
  by_cases hh : 1 ≤ h ∧ h ≤ 5
  · by_cases h3 : h ≤ 3
    · obtain ⟨k, rfl⟩ : ∃ k : Nat, h = k := ⟨h.toNat, by omega⟩
      exact keys6_small S hS nm seed k w hL hn hs (by omega) (by omega)
    · exact keys6_three S hS nm seed h w hL hn hs (by omega) (by omega)
  · exact keys6_bad S hS nm seed h w hL hn hs hh
end Go.Proofs.YtoebnkepeledmaaDoor
