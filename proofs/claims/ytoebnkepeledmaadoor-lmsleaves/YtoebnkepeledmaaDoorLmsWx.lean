/- LmsForms returns true: the key changed. -/
import Derived.Test.YtoebnkepeledmaaDoorLmsVx
namespace Go.Proofs.YtoebnkepeledmaaDoor
open Go Go.RowKit

set_option maxRecDepth 20000 in
set_option maxHeartbeats 1000000 in
theorem forms_five (S : List Int → List Int) (hS : Hash S) (nm seed : List Int) (which by_ : Int) (w0 : World) (hL : Laid w0) (hn : nm.length = 16) (hs : seed.length = 32) (hnr : Oct nm) (hb8 : 0 ≤ by_ ∧ by_ < 256) (hb0 : by_ ≠ 0) (hwh : which % 6 = 5) :
    Calls Tryd.prog 13 #[.agg (v8 nm), .agg (v8 seed), .int .i64 which, .int .u8 by_] w0 fun e w' => e = .returned (.bool true) ∧ Below w0.heap.size w0 w' := by
  have hK : ∀ wx, Laid wx → Calls Tryd.prog 21 #[] wx fun e w' => e = .returned (.bool true) ∧ Below wx.heap.size wx w' := fun wx hl => known6_any S hS wx hl
  have hP : ∀ wx, Laid wx → Calls Tryd.prog 22 #[.agg (v8 nm), .agg (v8 seed), .int .i64 1] wx fun e w' => ∃ sp cap, e = .returned (.tuple #[.slice sp 56 cap, .int .i64 0]) ∧ Own8 w' wx.heap.size 5 (.slice sp 56 cap) (keyL 1 nm (nodeN S nm seed (2 ^ 1) 1)) ∧ Below wx.heap.size wx w' := fun wx hl => lPublic_any S hS nm seed 1 wx hl hn hs (by omega) (by omega)
  have hSg : ∀ wx, Laid wx → Calls Tryd.prog 25 #[.agg (v8 nm), .agg (v8 seed), .int .i64 1, .int .i64 0, .slice none 0 0] wx fun e w' => ∃ g, e = .returned (.tuple #[.slice (some ⟨g, 0, none⟩) 4332 4332, .int .i64 0]) ∧ wx.heap.size ≤ g ∧ Row w' g 5 (v8 (lsigL S nm seed 1 0 [])) ∧ Below wx.heap.size wx w' := fun wx hl => lSign_any S hS nm seed [] 1 0 none 0 0 wx hl hn hs rfl (by omega) (Bytes.nil _ _) (by omega) (by omega) (by decide)
  have hw6 : ∀ wx, Calls Tryd.prog 24 #[.int .i64 which, .int .i64 6] wx fun e w' => e = .returned (.int .i64 5) ∧ w' = wx := fun wx => by
    have := within6_any which 6 wx (by omega) (by omega)
    rwa [hwh] at this
  have hby : (by_ == 0) = false := by simpa using hb0
  have hOc : ∀ l, Oct (S l) := fun l => hS.oct l
  have hKl : (keyL 1 nm (nodeN S nm seed (2 ^ 1) 1)).length = 56 := keyL_len hn (nodeN_len (fun l => hS.len l) _ _ _ _)
  have hKo : Oct (keyL 1 nm (nodeN S nm seed (2 ^ 1) 1)) := oct_key hnr (oct_node hOc _ _ _ _)
  have hKg := key_gi (nm := nm) (top := nodeN S nm seed (2 ^ 1) 1)
  have hSl : (lsigL S nm seed 1 0 []).length = 4332 := lsigL_len (fun l => hS.len l) nm seed 1 0 []
  have hSo : Oct (lsigL S nm seed 1 0 []) := oct_lsig hOc nm seed 1 0 []
  generalize keyL 1 nm (nodeN S nm seed (2 ^ 1) 1) = KEY at *
  generalize lsigL S nm seed 1 0 [] = SIG at *
  clear hOc hwh
  go_enter Tryd.func13, Tryd.ntmps13
  go_upto_region 1 with fail
  have r0 : Row (World.alloc (World.alloc w0 (.cells (v8 nm) 22)) (.cells (v8 seed) 24)) w0.heap.size 22 (v8 nm) := (Row.new _ _ _).alloc _
  have r1 : Row (World.alloc (World.alloc w0 (.cells (v8 nm) 22)) (.cells (v8 seed) 24)) (w0.heap.size + 1) 24 (v8 seed) := Row.newAt _ _ _ _ (by simp)
  have b1 : Below w0.heap.size w0 (World.alloc (World.alloc w0 (.cells (v8 nm) 22)) (.cells (v8 seed) 24)) := ((Below.refl _ _).alloc (Nat.le_refl _) _).alloc (by simp) _
  change Code.wp _ _ _ _ ((World.alloc (World.alloc w0 (.cells (v8 nm) 22)) (.cells (v8 seed) 24)))
  generalize (World.alloc (World.alloc w0 (.cells (v8 nm) 22)) (.cells (v8 seed) 24)) = w1 at r0 r1 b1 ⊢
  go_upto_region 5 with (first | (go_at_call 21; (with_reducible refine Calls.mono (hK _ (hL.below b1)) ?_); rintro e w2 ⟨rfl, hb2⟩; have p0 := r0.below hb2 r0.lt; have p1 := r1.below hb2 r1.lt; have pb := b1.trans (hb2.mono b1.size)))
  clear r0 r1 b1 hb2 hK
  go_upto_region 6 with (first | (refine wpList_load_row (by rfl) 22 (.tmp 4) (by rfl) w0.heap.size (by rfl) 22 (v8 nm) (0, 0) _ p0 Tryd.underlying22 rfl (name_info hn) ?_) | (refine wpList_load_row (by rfl) 24 (.tmp 5) (by rfl) (w0.heap.size + 1) (by rfl) 24 (v8 seed) (0, 0) _ p1 Tryd.underlying24 rfl (id_info hs) ?_) | (go_at_call 22; (with_reducible refine Calls.mono (hP _ (hL.below pb)) ?_); rintro e w3 ⟨sp3, cap3, rfl, o3, hb3⟩))
  have q0 := p0.below hb3 p0.lt
  have q1 := p1.below hb3 p1.lt
  have qb := pb.trans (hb3.mono pb.size)
  have hq3 : w0.heap.size ≤ w2.heap.size := pb.size
  have hq4 : w2.heap.size ≤ w3.heap.size := hb3.size
  go_upto_region 7 with (first | (refine wpList_load_row (by rfl) 22 (.tmp 4) (by rfl) w0.heap.size (by rfl) 22 (v8 nm) (0, 0) _ q0 Tryd.underlying22 rfl (name_info hn) ?_) | (refine wpList_load_row (by rfl) 24 (.tmp 5) (by rfl) (w0.heap.size + 1) (by rfl) 24 (v8 seed) (0, 0) _ q1 Tryd.underlying24 rfl (id_info hs) ?_) | (go_at_call 25; (with_reducible refine Calls.mono (hSg _ (hL.below qb)) ?_); rintro e w4 ⟨gs, rfl, hgs, hrs, hb4⟩))
  have o4 := o3.below hb4 (Nat.le_refl _)
  have zb := qb.trans (hb4.mono qb.size)
  have hb43 : Below w3.heap.size w3 w4 := hb4
  have hcp := own_room o4 (by rw [hKl]; omega)
  have hcpI : (56 : Int) ≤ (cap3 : Int) := by omega
  obtain ⟨gp, cur, rfl, _, hgp, hrw, hcl⟩ := o4.row (by rw [hKl]; omega)
  have hgpl := hrw.lt
  rw [hKl] at hcl
  clear p0 p1 pb hb3 q0 q1 hP hSg
  obtain ⟨_, _, he3, _, _, hrw3, _⟩ := o3.row (by rw [hKl]; omega)
  cases he3
  have hgp3 := hrw3.lt
  clear hrw3
  have ck := hcl 0 (by omega)
  have fk := hrw.frozen (j := 0)
  have hbp : Bytes (w4.setCell ⟨gp, 0, none⟩ (.int .u8 by_)) (some ⟨gp, 0, none⟩) (KEY.set 0 by_) := bytes_set 0 by_ (by omega) (fun i hi => hcl i (by omega))
  have ys := hrs.setOther (a := ⟨gp, 0, none⟩) (by show gs ≠ gp; omega) (.int .u8 by_)
  have yb : Below w0.heap.size w0 (w4.setCell ⟨gp, 0, none⟩ (.int .u8 by_)) := zb.setCell (by show w0.heap.size ≤ gp; omega) _
  have hbad : ¬ keyOk (KEY.set 0 by_) := fun hk => by
    have := hk.2.2.1
    unfold num4 at this
    rw [gi_set (by omega), gi_set (by omega), gi_set (by omega), gi_set (by omega), if_pos rfl, if_neg (by omega), if_neg (by omega), if_neg (by omega), hKg.2.1, hKg.2.2.1, hKg.2.2.2.1] at this
    omega
  have hck : ∀ wx, wx = w4.setCell ⟨gp, 0, none⟩ (.int .u8 by_) → Calls Tryd.prog 27 #[.slice (some ⟨gp, 0, none⟩) 56 cap3, .slice none 0 0, .slice none 0 0] wx fun e w' => e = .returned (.int .i64 11) ∧ Below wx.heap.size wx w' := by
    rintro wx rfl
    exact lCheck_key (KEY.set 0 by_) (some ⟨gp, 0, none⟩) none none 56 cap3 0 0 0 0 _ (by rw [List.length_set, hKl]) (by omega) hbp (oct_set hKo hb8) hbad
  clear hKg
  go_wp2_with (first | (go_at_call 24; (with_reducible refine Calls.mono (hw6 _) ?_); rintro e w9 ⟨rfl, hw⟩; obtain rfl := hw.symm; clear hw) | (go_at_call 27; (with_reducible refine Calls.mono (hck _ rfl) ?_); rintro e w8 ⟨rfl, hb8w⟩))
  go_ret
  exact ⟨rfl, yb.trans (hb8w.mono yb.size)⟩
set_option maxRecDepth 20000 in
set_option maxHeartbeats 1000000 in
theorem forms_one (S : List Int → List Int) (hS : Hash S) (nm seed : List Int) (which by_ : Int) (w0 : World) (hL : Laid w0) (hn : nm.length = 16) (hs : seed.length = 32) (hnr : Oct nm) (hb8 : 0 ≤ by_ ∧ by_ < 256) (hb0 : by_ ≠ 0) (hwh : which % 6 = 1) :
    Calls Tryd.prog 13 #[.agg (v8 nm), .agg (v8 seed), .int .i64 which, .int .u8 by_] w0 fun e w' => e = .returned (.bool true) ∧ Below w0.heap.size w0 w' := by
  have hK : ∀ wx, Laid wx → Calls Tryd.prog 21 #[] wx fun e w' => e = .returned (.bool true) ∧ Below wx.heap.size wx w' := fun wx hl => known6_any S hS wx hl
  have hP : ∀ wx, Laid wx → Calls Tryd.prog 22 #[.agg (v8 nm), .agg (v8 seed), .int .i64 1] wx fun e w' => ∃ sp cap, e = .returned (.tuple #[.slice sp 56 cap, .int .i64 0]) ∧ Own8 w' wx.heap.size 5 (.slice sp 56 cap) (keyL 1 nm (nodeN S nm seed (2 ^ 1) 1)) ∧ Below wx.heap.size wx w' := fun wx hl => lPublic_any S hS nm seed 1 wx hl hn hs (by omega) (by omega)
  have hSg : ∀ wx, Laid wx → Calls Tryd.prog 25 #[.agg (v8 nm), .agg (v8 seed), .int .i64 1, .int .i64 0, .slice none 0 0] wx fun e w' => ∃ g, e = .returned (.tuple #[.slice (some ⟨g, 0, none⟩) 4332 4332, .int .i64 0]) ∧ wx.heap.size ≤ g ∧ Row w' g 5 (v8 (lsigL S nm seed 1 0 [])) ∧ Below wx.heap.size wx w' := fun wx hl => lSign_any S hS nm seed [] 1 0 none 0 0 wx hl hn hs rfl (by omega) (Bytes.nil _ _) (by omega) (by omega) (by decide)
  have hw6 : ∀ wx, Calls Tryd.prog 24 #[.int .i64 which, .int .i64 6] wx fun e w' => e = .returned (.int .i64 1) ∧ w' = wx := fun wx => by
    have := within6_any which 6 wx (by omega) (by omega)
    rwa [hwh] at this
  have hby : (by_ == 0) = false := by simpa using hb0
  have hOc : ∀ l, Oct (S l) := fun l => hS.oct l
  have hKl : (keyL 1 nm (nodeN S nm seed (2 ^ 1) 1)).length = 56 := keyL_len hn (nodeN_len (fun l => hS.len l) _ _ _ _)
  have hKo : Oct (keyL 1 nm (nodeN S nm seed (2 ^ 1) 1)) := oct_key hnr (oct_node hOc _ _ _ _)
  have hKg := key_gi (nm := nm) (top := nodeN S nm seed (2 ^ 1) 1)
  have hSl : (lsigL S nm seed 1 0 []).length = 4332 := lsigL_len (fun l => hS.len l) nm seed 1 0 []
  have hSo : Oct (lsigL S nm seed 1 0 []) := oct_lsig hOc nm seed 1 0 []
  generalize keyL 1 nm (nodeN S nm seed (2 ^ 1) 1) = KEY at *
  generalize lsigL S nm seed 1 0 [] = SIG at *
  clear hOc hwh
  go_enter Tryd.func13, Tryd.ntmps13
  go_upto_region 1 with fail
  have r0 : Row (World.alloc (World.alloc w0 (.cells (v8 nm) 22)) (.cells (v8 seed) 24)) w0.heap.size 22 (v8 nm) := (Row.new _ _ _).alloc _
  have r1 : Row (World.alloc (World.alloc w0 (.cells (v8 nm) 22)) (.cells (v8 seed) 24)) (w0.heap.size + 1) 24 (v8 seed) := Row.newAt _ _ _ _ (by simp)
  have b1 : Below w0.heap.size w0 (World.alloc (World.alloc w0 (.cells (v8 nm) 22)) (.cells (v8 seed) 24)) := ((Below.refl _ _).alloc (Nat.le_refl _) _).alloc (by simp) _
  change Code.wp _ _ _ _ ((World.alloc (World.alloc w0 (.cells (v8 nm) 22)) (.cells (v8 seed) 24)))
  generalize (World.alloc (World.alloc w0 (.cells (v8 nm) 22)) (.cells (v8 seed) 24)) = w1 at r0 r1 b1 ⊢
  go_upto_region 5 with (first | (go_at_call 21; (with_reducible refine Calls.mono (hK _ (hL.below b1)) ?_); rintro e w2 ⟨rfl, hb2⟩; have p0 := r0.below hb2 r0.lt; have p1 := r1.below hb2 r1.lt; have pb := b1.trans (hb2.mono b1.size)))
  clear r0 r1 b1 hb2 hK
  go_upto_region 6 with (first | (refine wpList_load_row (by rfl) 22 (.tmp 4) (by rfl) w0.heap.size (by rfl) 22 (v8 nm) (0, 0) _ p0 Tryd.underlying22 rfl (name_info hn) ?_) | (refine wpList_load_row (by rfl) 24 (.tmp 5) (by rfl) (w0.heap.size + 1) (by rfl) 24 (v8 seed) (0, 0) _ p1 Tryd.underlying24 rfl (id_info hs) ?_) | (go_at_call 22; (with_reducible refine Calls.mono (hP _ (hL.below pb)) ?_); rintro e w3 ⟨sp3, cap3, rfl, o3, hb3⟩))
  have q0 := p0.below hb3 p0.lt
  have q1 := p1.below hb3 p1.lt
  have qb := pb.trans (hb3.mono pb.size)
  have hq3 : w0.heap.size ≤ w2.heap.size := pb.size
  have hq4 : w2.heap.size ≤ w3.heap.size := hb3.size
  go_upto_region 7 with (first | (refine wpList_load_row (by rfl) 22 (.tmp 4) (by rfl) w0.heap.size (by rfl) 22 (v8 nm) (0, 0) _ q0 Tryd.underlying22 rfl (name_info hn) ?_) | (refine wpList_load_row (by rfl) 24 (.tmp 5) (by rfl) (w0.heap.size + 1) (by rfl) 24 (v8 seed) (0, 0) _ q1 Tryd.underlying24 rfl (id_info hs) ?_) | (go_at_call 25; (with_reducible refine Calls.mono (hSg _ (hL.below qb)) ?_); rintro e w4 ⟨gs, rfl, hgs, hrs, hb4⟩))
  have o4 := o3.below hb4 (Nat.le_refl _)
  have zb := qb.trans (hb4.mono qb.size)
  have hb43 : Below w3.heap.size w3 w4 := hb4
  have hcp := own_room o4 (by rw [hKl]; omega)
  have hcpI : (56 : Int) ≤ (cap3 : Int) := by omega
  obtain ⟨gp, cur, rfl, _, hgp, hrw, hcl⟩ := o4.row (by rw [hKl]; omega)
  have hgpl := hrw.lt
  rw [hKl] at hcl
  clear p0 p1 pb hb3 q0 q1 hP hSg
  obtain ⟨_, _, he3, _, _, hrw3, _⟩ := o3.row (by rw [hKl]; omega)
  cases he3
  have hgp3 := hrw3.lt
  clear hrw3
  have hx := xor_not ⟨by_.toNat, by omega⟩ (by show by_.toNat ≠ 0; omega)
  rw [show ((by_.toNat : Nat) : Int) = by_ by omega] at hx
  obtain ⟨V, hV⟩ : ∃ V, bits .xor .u8 2 by_ = V := ⟨_, rfl⟩
  rw [hV] at hx
  have ck := hcl 7 (by omega)
  have fk := hrw.frozen (j := 7)
  have hbp : Bytes (w4.setCell ⟨gp, 7, none⟩ (.int .u8 V)) (some ⟨gp, 0, none⟩) (KEY.set 7 V) := bytes_set 7 V (by omega) (fun i hi => hcl i (by omega))
  have ys := hrs.setOther (a := ⟨gp, 7, none⟩) (by show gs ≠ gp; omega) (.int .u8 V)
  have yb : Below w0.heap.size w0 (w4.setCell ⟨gp, 7, none⟩ (.int .u8 V)) := zb.setCell (by show w0.heap.size ≤ gp; omega) _
  have hbad : ¬ keyOk (KEY.set 7 V) := fun hk => by
    have := hk.2.2.2
    unfold num4 at this
    rw [gi_set (by omega), gi_set (by omega), gi_set (by omega), gi_set (by omega), if_neg (by omega), if_neg (by omega), if_neg (by omega), if_pos (by omega), hKg.2.2.2.2.1, hKg.2.2.2.2.2.1, hKg.2.2.2.2.2.2.1] at this
    have := hx.1
    omega
  have hck : ∀ wx, wx = w4.setCell ⟨gp, 7, none⟩ (.int .u8 V) → Calls Tryd.prog 27 #[.slice (some ⟨gp, 0, none⟩) 56 cap3, .slice none 0 0, .slice (some ⟨gs, 0, none⟩) 4332 4332] wx fun e w' => e = .returned (.int .i64 11) ∧ Below wx.heap.size wx w' := by
    rintro wx rfl
    exact lCheck_key (KEY.set 7 V) (some ⟨gp, 0, none⟩) none (some ⟨gs, 0, none⟩) 56 cap3 0 0 4332 4332 _ (by rw [List.length_set, hKl]) (by omega) hbp (oct_set hKo hx.2) hbad
  clear hKg hx
  go_wp2_with (first | (go_at_call 24; (with_reducible refine Calls.mono (hw6 _) ?_); rintro e w9 ⟨rfl, hw⟩; obtain rfl := hw.symm; clear hw) | (go_at_call 27; (with_reducible refine Calls.mono (hck _ rfl) ?_); rintro e w8 ⟨rfl, hb8w⟩))
  go_ret
  exact ⟨rfl, yb.trans (hb8w.mono yb.size)⟩
set_option maxRecDepth 20000 in
set_option maxHeartbeats 1000000 in
theorem forms_high (S : List Int → List Int) (hS : Hash S) (nm seed : List Int) (which by_ : Int) (w0 : World) (hL : Laid w0) (hn : nm.length = 16) (hs : seed.length = 32) (hnr : Oct nm) (hb8 : 0 ≤ by_ ∧ by_ < 256) (hb0 : by_ ≠ 0) (hwh : which % 6 = 0) (hmm : 5 ≤ by_ % 100) :
    Calls Tryd.prog 13 #[.agg (v8 nm), .agg (v8 seed), .int .i64 which, .int .u8 by_] w0 fun e w' => e = .returned (.bool true) ∧ Below w0.heap.size w0 w' := by
  have hK : ∀ wx, Laid wx → Calls Tryd.prog 21 #[] wx fun e w' => e = .returned (.bool true) ∧ Below wx.heap.size wx w' := fun wx hl => known6_any S hS wx hl
  have hP : ∀ wx, Laid wx → Calls Tryd.prog 22 #[.agg (v8 nm), .agg (v8 seed), .int .i64 1] wx fun e w' => ∃ sp cap, e = .returned (.tuple #[.slice sp 56 cap, .int .i64 0]) ∧ Own8 w' wx.heap.size 5 (.slice sp 56 cap) (keyL 1 nm (nodeN S nm seed (2 ^ 1) 1)) ∧ Below wx.heap.size wx w' := fun wx hl => lPublic_any S hS nm seed 1 wx hl hn hs (by omega) (by omega)
  have hSg : ∀ wx, Laid wx → Calls Tryd.prog 25 #[.agg (v8 nm), .agg (v8 seed), .int .i64 1, .int .i64 0, .slice none 0 0] wx fun e w' => ∃ g, e = .returned (.tuple #[.slice (some ⟨g, 0, none⟩) 4332 4332, .int .i64 0]) ∧ wx.heap.size ≤ g ∧ Row w' g 5 (v8 (lsigL S nm seed 1 0 [])) ∧ Below wx.heap.size wx w' := fun wx hl => lSign_any S hS nm seed [] 1 0 none 0 0 wx hl hn hs rfl (by omega) (Bytes.nil _ _) (by omega) (by omega) (by decide)
  have hw6 : ∀ wx, Calls Tryd.prog 24 #[.int .i64 which, .int .i64 6] wx fun e w' => e = .returned (.int .i64 0) ∧ w' = wx := fun wx => by
    have := within6_any which 6 wx (by omega) (by omega)
    rwa [hwh] at this
  have hby : (by_ == 0) = false := by simpa using hb0
  have hOc : ∀ l, Oct (S l) := fun l => hS.oct l
  have hKl : (keyL 1 nm (nodeN S nm seed (2 ^ 1) 1)).length = 56 := keyL_len hn (nodeN_len (fun l => hS.len l) _ _ _ _)
  have hKo : Oct (keyL 1 nm (nodeN S nm seed (2 ^ 1) 1)) := oct_key hnr (oct_node hOc _ _ _ _)
  have hKg := key_gi (nm := nm) (top := nodeN S nm seed (2 ^ 1) 1)
  have hSl : (lsigL S nm seed 1 0 []).length = 4332 := lsigL_len (fun l => hS.len l) nm seed 1 0 []
  have hSo : Oct (lsigL S nm seed 1 0 []) := oct_lsig hOc nm seed 1 0 []
  generalize keyL 1 nm (nodeN S nm seed (2 ^ 1) 1) = KEY at *
  generalize lsigL S nm seed 1 0 [] = SIG at *
  clear hOc hwh
  go_enter Tryd.func13, Tryd.ntmps13
  go_upto_region 1 with fail
  have r0 : Row (World.alloc (World.alloc w0 (.cells (v8 nm) 22)) (.cells (v8 seed) 24)) w0.heap.size 22 (v8 nm) := (Row.new _ _ _).alloc _
  have r1 : Row (World.alloc (World.alloc w0 (.cells (v8 nm) 22)) (.cells (v8 seed) 24)) (w0.heap.size + 1) 24 (v8 seed) := Row.newAt _ _ _ _ (by simp)
  have b1 : Below w0.heap.size w0 (World.alloc (World.alloc w0 (.cells (v8 nm) 22)) (.cells (v8 seed) 24)) := ((Below.refl _ _).alloc (Nat.le_refl _) _).alloc (by simp) _
  change Code.wp _ _ _ _ ((World.alloc (World.alloc w0 (.cells (v8 nm) 22)) (.cells (v8 seed) 24)))
  generalize (World.alloc (World.alloc w0 (.cells (v8 nm) 22)) (.cells (v8 seed) 24)) = w1 at r0 r1 b1 ⊢
  go_upto_region 5 with (first | (go_at_call 21; (with_reducible refine Calls.mono (hK _ (hL.below b1)) ?_); rintro e w2 ⟨rfl, hb2⟩; have p0 := r0.below hb2 r0.lt; have p1 := r1.below hb2 r1.lt; have pb := b1.trans (hb2.mono b1.size)))
  clear r0 r1 b1 hb2 hK
  go_upto_region 6 with (first | (refine wpList_load_row (by rfl) 22 (.tmp 4) (by rfl) w0.heap.size (by rfl) 22 (v8 nm) (0, 0) _ p0 Tryd.underlying22 rfl (name_info hn) ?_) | (refine wpList_load_row (by rfl) 24 (.tmp 5) (by rfl) (w0.heap.size + 1) (by rfl) 24 (v8 seed) (0, 0) _ p1 Tryd.underlying24 rfl (id_info hs) ?_) | (go_at_call 22; (with_reducible refine Calls.mono (hP _ (hL.below pb)) ?_); rintro e w3 ⟨sp3, cap3, rfl, o3, hb3⟩))
  have q0 := p0.below hb3 p0.lt
  have q1 := p1.below hb3 p1.lt
  have qb := pb.trans (hb3.mono pb.size)
  have hq3 : w0.heap.size ≤ w2.heap.size := pb.size
  have hq4 : w2.heap.size ≤ w3.heap.size := hb3.size
  go_upto_region 7 with (first | (refine wpList_load_row (by rfl) 22 (.tmp 4) (by rfl) w0.heap.size (by rfl) 22 (v8 nm) (0, 0) _ q0 Tryd.underlying22 rfl (name_info hn) ?_) | (refine wpList_load_row (by rfl) 24 (.tmp 5) (by rfl) (w0.heap.size + 1) (by rfl) 24 (v8 seed) (0, 0) _ q1 Tryd.underlying24 rfl (id_info hs) ?_) | (go_at_call 25; (with_reducible refine Calls.mono (hSg _ (hL.below qb)) ?_); rintro e w4 ⟨gs, rfl, hgs, hrs, hb4⟩))
  have o4 := o3.below hb4 (Nat.le_refl _)
  have zb := qb.trans (hb4.mono qb.size)
  have hb43 : Below w3.heap.size w3 w4 := hb4
  have hcp := own_room o4 (by rw [hKl]; omega)
  have hcpI : (56 : Int) ≤ (cap3 : Int) := by omega
  obtain ⟨gp, cur, rfl, _, hgp, hrw, hcl⟩ := o4.row (by rw [hKl]; omega)
  have hgpl := hrw.lt
  rw [hKl] at hcl
  clear p0 p1 pb hb3 q0 q1 hP hSg
  obtain ⟨_, _, he3, _, _, hrw3, _⟩ := o3.row (by rw [hKl]; omega)
  cases he3
  have hgp3 := hrw3.lt
  clear hrw3
  obtain ⟨m, hm⟩ : ∃ m, m = by_ % 100 := ⟨_, rfl⟩
  have hm0 : 0 ≤ m ∧ m < 100 := by omega
  have t100 : by_.tmod 100 = m := by rw [Int.tmod_eq_emod_of_nonneg (by omega), hm]
  rw [← hm] at hmm
  clear hm
  have hwr : IntKind.wrap .u8 (1 + m) = 1 + m := by unfold IntKind.wrap; simp [IntKind.bits, IntKind.signed]; omega
  have hn0 : num4 (KEY.set 3 (1 + m)) 0 = 1 + m := by
    unfold num4
    rw [gi_set (by omega), gi_set (by omega), gi_set (by omega), gi_set (by omega), if_neg (by omega), if_neg (by omega), if_neg (by omega), if_pos (by omega), hKg.1, hKg.2.1, hKg.2.2.1]
    omega
  have d1 : decide (1 + m ≥ 1) = true := decide_eq_true (by omega)
  have d5 : decide (1 + m ≤ 5) = false := decide_eq_false (by omega)
  have d1' : 1 ≤ 1 + m := by omega
  have d5' : ¬ (1 + m ≤ 5) := by omega
  have ck := hcl 3 (by omega)
  have fk := hrw.frozen (j := 3)
  have hbp : Bytes (w4.setCell ⟨gp, 3, none⟩ (.int .u8 (1 + m))) (some ⟨gp, 0, none⟩) (KEY.set 3 (1 + m)) := bytes_set 3 (1 + m) (by omega) (fun i hi => hcl i (by omega))
  have ys := hrs.setOther (a := ⟨gp, 3, none⟩) (by show gs ≠ gp; omega) (.int .u8 (1 + m))
  have yb : Below w0.heap.size w0 (w4.setCell ⟨gp, 3, none⟩ (.int .u8 (1 + m))) := zb.setCell (by show w0.heap.size ≤ gp; omega) _
  have hck : ∀ wx, Laid wx → Bytes wx (some ⟨gp, 0, none⟩) (KEY.set 3 (1 + m)) → Row wx gs 5 (v8 SIG) → Calls Tryd.prog 27 #[.slice (some ⟨gp, 0, none⟩) 56 cap3, .slice none 0 0, .slice (some ⟨gs, 0, none⟩) 4332 4332] wx fun e w' => e = .returned (.int .i64 11) ∧ Below wx.heap.size wx w' := fun wx hlx hbx hrx => by
    exact lCheck_key (KEY.set 3 (1 + m)) (some ⟨gp, 0, none⟩) none (some ⟨gs, 0, none⟩) 56 cap3 0 0 4332 4332 wx (by rw [List.length_set, hKl]) (by omega) hbx (oct_set hKo (by omega)) (fun hk => by have := hk.2.2.1; omega)
  go_upto_region 11 with (go_at_call 24; (with_reducible refine Calls.mono (hw6 _) ?_); rintro e w9 ⟨rfl, hw⟩; obtain rfl := hw.symm; clear hw)
  generalize hw5 : w4.setCell ⟨gp, 3, none⟩ (.int .u8 (1 + m)) = w5 at *
  have c3 : w5.cell? ⟨gp, 3, none⟩ = some (.int .u8 (1 + m)) := by
    obtain ⟨b, o, e, hc⟩ := hbp (by rw [List.length_set]; omega)
    injection e with e
    injection e with e1 e2
    subst e1 e2
    have := hc 3 (by rw [List.length_set]; omega)
    rwa [gi_set (by omega), if_pos rfl] at this
  clear hw5 ck fk hKg
  go_wp2_with (go_at_call 27; (with_reducible refine Calls.mono (hck _ (hL.below yb) hbp ys) ?_); rintro e w8 ⟨rfl, hb8w⟩)
  go_ret
  exact ⟨rfl, yb.trans (hb8w.mono yb.size)⟩
set_option maxRecDepth 20000 in
set_option maxHeartbeats 1000000 in
theorem forms_other (S : List Int → List Int) (hS : Hash S) (nm seed : List Int) (which by_ : Int) (w0 : World) (hL : Laid w0) (hn : nm.length = 16) (hs : seed.length = 32) (hnr : Oct nm) (hb8 : 0 ≤ by_ ∧ by_ < 256) (hb0 : by_ ≠ 0) (hwh : which % 6 = 0) (hmm : 1 ≤ by_ % 100 ∧ by_ % 100 < 5) :
    Calls Tryd.prog 13 #[.agg (v8 nm), .agg (v8 seed), .int .i64 which, .int .u8 by_] w0 fun e w' => e = .returned (.bool true) ∧ Below w0.heap.size w0 w' := by
  have hK : ∀ wx, Laid wx → Calls Tryd.prog 21 #[] wx fun e w' => e = .returned (.bool true) ∧ Below wx.heap.size wx w' := fun wx hl => known6_any S hS wx hl
  have hP : ∀ wx, Laid wx → Calls Tryd.prog 22 #[.agg (v8 nm), .agg (v8 seed), .int .i64 1] wx fun e w' => ∃ sp cap, e = .returned (.tuple #[.slice sp 56 cap, .int .i64 0]) ∧ Own8 w' wx.heap.size 5 (.slice sp 56 cap) (keyL 1 nm (nodeN S nm seed (2 ^ 1) 1)) ∧ Below wx.heap.size wx w' := fun wx hl => lPublic_any S hS nm seed 1 wx hl hn hs (by omega) (by omega)
  have hSg : ∀ wx, Laid wx → Calls Tryd.prog 25 #[.agg (v8 nm), .agg (v8 seed), .int .i64 1, .int .i64 0, .slice none 0 0] wx fun e w' => ∃ g, e = .returned (.tuple #[.slice (some ⟨g, 0, none⟩) 4332 4332, .int .i64 0]) ∧ wx.heap.size ≤ g ∧ Row w' g 5 (v8 (lsigL S nm seed 1 0 [])) ∧ Below wx.heap.size wx w' := fun wx hl => lSign_any S hS nm seed [] 1 0 none 0 0 wx hl hn hs rfl (by omega) (Bytes.nil _ _) (by omega) (by omega) (by decide)
  have hw6 : ∀ wx, Calls Tryd.prog 24 #[.int .i64 which, .int .i64 6] wx fun e w' => e = .returned (.int .i64 0) ∧ w' = wx := fun wx => by
    have := within6_any which 6 wx (by omega) (by omega)
    rwa [hwh] at this
  have hby : (by_ == 0) = false := by simpa using hb0
  have hOc : ∀ l, Oct (S l) := fun l => hS.oct l
  have hKl : (keyL 1 nm (nodeN S nm seed (2 ^ 1) 1)).length = 56 := keyL_len hn (nodeN_len (fun l => hS.len l) _ _ _ _)
  have hKo : Oct (keyL 1 nm (nodeN S nm seed (2 ^ 1) 1)) := oct_key hnr (oct_node hOc _ _ _ _)
  have hKg := key_gi (nm := nm) (top := nodeN S nm seed (2 ^ 1) 1)
  have hSl : (lsigL S nm seed 1 0 []).length = 4332 := lsigL_len (fun l => hS.len l) nm seed 1 0 []
  have hSo : Oct (lsigL S nm seed 1 0 []) := oct_lsig hOc nm seed 1 0 []
  generalize keyL 1 nm (nodeN S nm seed (2 ^ 1) 1) = KEY at *
  generalize lsigL S nm seed 1 0 [] = SIG at *
  clear hOc hwh
  go_enter Tryd.func13, Tryd.ntmps13
  go_upto_region 1 with fail
  have r0 : Row (World.alloc (World.alloc w0 (.cells (v8 nm) 22)) (.cells (v8 seed) 24)) w0.heap.size 22 (v8 nm) := (Row.new _ _ _).alloc _
  have r1 : Row (World.alloc (World.alloc w0 (.cells (v8 nm) 22)) (.cells (v8 seed) 24)) (w0.heap.size + 1) 24 (v8 seed) := Row.newAt _ _ _ _ (by simp)
  have b1 : Below w0.heap.size w0 (World.alloc (World.alloc w0 (.cells (v8 nm) 22)) (.cells (v8 seed) 24)) := ((Below.refl _ _).alloc (Nat.le_refl _) _).alloc (by simp) _
  change Code.wp _ _ _ _ ((World.alloc (World.alloc w0 (.cells (v8 nm) 22)) (.cells (v8 seed) 24)))
  generalize (World.alloc (World.alloc w0 (.cells (v8 nm) 22)) (.cells (v8 seed) 24)) = w1 at r0 r1 b1 ⊢
  go_upto_region 5 with (first | (go_at_call 21; (with_reducible refine Calls.mono (hK _ (hL.below b1)) ?_); rintro e w2 ⟨rfl, hb2⟩; have p0 := r0.below hb2 r0.lt; have p1 := r1.below hb2 r1.lt; have pb := b1.trans (hb2.mono b1.size)))
  clear r0 r1 b1 hb2 hK
  go_upto_region 6 with (first | (refine wpList_load_row (by rfl) 22 (.tmp 4) (by rfl) w0.heap.size (by rfl) 22 (v8 nm) (0, 0) _ p0 Tryd.underlying22 rfl (name_info hn) ?_) | (refine wpList_load_row (by rfl) 24 (.tmp 5) (by rfl) (w0.heap.size + 1) (by rfl) 24 (v8 seed) (0, 0) _ p1 Tryd.underlying24 rfl (id_info hs) ?_) | (go_at_call 22; (with_reducible refine Calls.mono (hP _ (hL.below pb)) ?_); rintro e w3 ⟨sp3, cap3, rfl, o3, hb3⟩))
  have q0 := p0.below hb3 p0.lt
  have q1 := p1.below hb3 p1.lt
  have qb := pb.trans (hb3.mono pb.size)
  have hq3 : w0.heap.size ≤ w2.heap.size := pb.size
  have hq4 : w2.heap.size ≤ w3.heap.size := hb3.size
  go_upto_region 7 with (first | (refine wpList_load_row (by rfl) 22 (.tmp 4) (by rfl) w0.heap.size (by rfl) 22 (v8 nm) (0, 0) _ q0 Tryd.underlying22 rfl (name_info hn) ?_) | (refine wpList_load_row (by rfl) 24 (.tmp 5) (by rfl) (w0.heap.size + 1) (by rfl) 24 (v8 seed) (0, 0) _ q1 Tryd.underlying24 rfl (id_info hs) ?_) | (go_at_call 25; (with_reducible refine Calls.mono (hSg _ (hL.below qb)) ?_); rintro e w4 ⟨gs, rfl, hgs, hrs, hb4⟩))
  have o4 := o3.below hb4 (Nat.le_refl _)
  have zb := qb.trans (hb4.mono qb.size)
  have hb43 : Below w3.heap.size w3 w4 := hb4
  have hcp := own_room o4 (by rw [hKl]; omega)
  have hcpI : (56 : Int) ≤ (cap3 : Int) := by omega
  obtain ⟨gp, cur, rfl, _, hgp, hrw, hcl⟩ := o4.row (by rw [hKl]; omega)
  have hgpl := hrw.lt
  rw [hKl] at hcl
  clear p0 p1 pb hb3 q0 q1 hP hSg
  obtain ⟨_, _, he3, _, _, hrw3, _⟩ := o3.row (by rw [hKl]; omega)
  cases he3
  have hgp3 := hrw3.lt
  clear hrw3
  obtain ⟨m, hm⟩ : ∃ m, m = by_ % 100 := ⟨_, rfl⟩
  have hm0 : 0 ≤ m ∧ m < 100 := by omega
  have t100 : by_.tmod 100 = m := by rw [Int.tmod_eq_emod_of_nonneg (by omega), hm]
  rw [← hm] at hmm
  clear hm
  have hwr : IntKind.wrap .u8 (1 + m) = 1 + m := by unfold IntKind.wrap; simp [IntKind.bits, IntKind.signed]; omega
  have hn0 : num4 (KEY.set 3 (1 + m)) 0 = 1 + m := by
    unfold num4
    rw [gi_set (by omega), gi_set (by omega), gi_set (by omega), gi_set (by omega), if_neg (by omega), if_neg (by omega), if_neg (by omega), if_pos (by omega), hKg.1, hKg.2.1, hKg.2.2.1]
    omega
  have hn4 : num4 (KEY.set 3 (1 + m)) 4 = 2 := by
    unfold num4
    rw [gi_set (by omega), gi_set (by omega), gi_set (by omega), gi_set (by omega), if_neg (by omega), if_neg (by omega), if_neg (by omega), if_neg (by omega), hKg.2.2.2.2.1, hKg.2.2.2.2.2.1, hKg.2.2.2.2.2.2.1, hKg.2.2.2.2.2.2.2]
    decide
  have d1' : 1 ≤ 1 + m := by omega
  have d5' : 1 + m ≤ 5 := by omega
  have d0 : (1 + m == 1) = false := by simp; omega
  have ck := hcl 3 (by omega)
  have fk := hrw.frozen (j := 3)
  have hbp : Bytes (w4.setCell ⟨gp, 3, none⟩ (.int .u8 (1 + m))) (some ⟨gp, 0, none⟩) (KEY.set 3 (1 + m)) := bytes_set 3 (1 + m) (by omega) (fun i hi => hcl i (by omega))
  have ys := hrs.setOther (a := ⟨gp, 3, none⟩) (by show gs ≠ gp; omega) (.int .u8 (1 + m))
  have yb : Below w0.heap.size w0 (w4.setCell ⟨gp, 3, none⟩ (.int .u8 (1 + m))) := zb.setCell (by show w0.heap.size ≤ gp; omega) _
  have hck : ∀ wx, Laid wx → Bytes wx (some ⟨gp, 0, none⟩) (KEY.set 3 (1 + m)) → Row wx gs 5 (v8 SIG) → Calls Tryd.prog 27 #[.slice (some ⟨gp, 0, none⟩) 56 cap3, .slice none 0 0, .slice (some ⟨gs, 0, none⟩) 4332 4332] wx fun e w' => e = .returned (.int .i64 12) ∧ Below wx.heap.size wx w' := fun wx hlx hbx hrx => by
    exact lCheck_len (KEY.set 3 (1 + m)) (some ⟨gp, 0, none⟩) none (some ⟨gs, 0, none⟩) 56 cap3 0 0 4332 4332 wx (by rw [List.length_set, hKl]) (by omega) hbx (oct_set hKo (by omega)) (1 + m).toNat ⟨by rw [List.length_set, hKl], by omega, by omega, hn4⟩ (by omega) (by omega)
  go_upto_region 11 with (go_at_call 24; (with_reducible refine Calls.mono (hw6 _) ?_); rintro e w9 ⟨rfl, hw⟩; obtain rfl := hw.symm; clear hw)
  generalize hw5 : w4.setCell ⟨gp, 3, none⟩ (.int .u8 (1 + m)) = w5 at *
  have c3 : w5.cell? ⟨gp, 3, none⟩ = some (.int .u8 (1 + m)) := by
    obtain ⟨b, o, e, hc⟩ := hbp (by rw [List.length_set]; omega)
    injection e with e
    injection e with e1 e2
    subst e1 e2
    have := hc 3 (by rw [List.length_set]; omega)
    rwa [gi_set (by omega), if_pos rfl] at this
  clear hw5 ck fk hKg
  go_wp2_with (go_at_call 27; (with_reducible refine Calls.mono (hck _ (hL.below yb) hbp ys) ?_); rintro e w8 ⟨rfl, hb8w⟩)
  go_ret
  exact ⟨rfl, yb.trans (hb8w.mono yb.size)⟩
end Go.Proofs.YtoebnkepeledmaaDoor
