/- LmsForms returns true: a case at a time. -/
import Derived.Test.YtoebnkepeledmaaDoorLmsUx
import Derived.Test.YtoebnkepeledmaaDoorGk
import Derived.Test.YtoebnkepeledmaaDoorGe
namespace Go.Proofs.YtoebnkepeledmaaDoor
open Go Go.RowKit

theorem Hash.oct {S : List Int → List Int} (h : Hash S) (l : List Int) : Oct (S l) := by subst h; exact all_idN _ 8
theorem own_room {w : World} {B : Nat} {e : TypeId} {sp : Option Addr} {n cap : Nat} {l : List Int} (h : Own8 w B e (.slice sp n cap) l) (hp : 0 < l.length) : n ≤ cap := by
  obtain ⟨_, _, _, h1, _⟩ := h.row hp
  exact h1
theorem forms_zero (nm seed : List Int) (S : List Int → List Int) (hS : Hash S) (which : Int) (w0 : World) (hL : Laid w0) :
    Calls Tryd.prog 13 #[.agg (v8 nm), .agg (v8 seed), .int .i64 which, .int .u8 0] w0 fun e w' => e = .returned (.bool true) ∧ Below w0.heap.size w0 w' := by
  have hK : ∀ wx, Laid wx → Calls Tryd.prog 21 #[] wx fun e w' => e = .returned (.bool true) ∧ Below wx.heap.size wx w' := fun wx hl => known6_any S hS wx hl
  go_enter Tryd.func13, Tryd.ntmps13
  go_upto_region 1 with fail
  have b1 : Below w0.heap.size w0 (World.alloc (World.alloc w0 (.cells (v8 nm) 22)) (.cells (v8 seed) 24)) := ((Below.refl _ _).alloc (Nat.le_refl _) _).alloc (by simp) _
  change Code.wp _ _ _ _ ((World.alloc (World.alloc w0 (.cells (v8 nm) 22)) (.cells (v8 seed) 24)))
  generalize (World.alloc (World.alloc w0 (.cells (v8 nm) 22)) (.cells (v8 seed) 24)) = w1 at b1 ⊢
  go_wp2_with (go_at_call 21; (with_reducible refine Calls.mono (hK _ (hL.below b1)) ?_); rintro e w2 ⟨rfl, hb2⟩)
  go_ret
  exact ⟨rfl, b1.trans (hb2.mono b1.size)⟩
set_option maxRecDepth 20000 in
set_option maxHeartbeats 1000000 in
theorem forms_two (S : List Int → List Int) (hS : Hash S) (nm seed : List Int) (which by_ : Int) (w0 : World) (hL : Laid w0) (hn : nm.length = 16) (hs : seed.length = 32) (hnr : Oct nm) (hb0 : by_ ≠ 0) (hwh : which % 6 = 2) :
    Calls Tryd.prog 13 #[.agg (v8 nm), .agg (v8 seed), .int .i64 which, .int .u8 by_] w0 fun e w' => e = .returned (.bool true) ∧ Below w0.heap.size w0 w' := by
  have hK : ∀ wx, Laid wx → Calls Tryd.prog 21 #[] wx fun e w' => e = .returned (.bool true) ∧ Below wx.heap.size wx w' := fun wx hl => known6_any S hS wx hl
  have hP : ∀ wx, Laid wx → Calls Tryd.prog 22 #[.agg (v8 nm), .agg (v8 seed), .int .i64 1] wx fun e w' => ∃ sp cap, e = .returned (.tuple #[.slice sp 56 cap, .int .i64 0]) ∧ Own8 w' wx.heap.size 5 (.slice sp 56 cap) (keyL 1 nm (nodeN S nm seed (2 ^ 1) 1)) ∧ Below wx.heap.size wx w' := fun wx hl => lPublic_any S hS nm seed 1 wx hl hn hs (by omega) (by omega)
  have hSg : ∀ wx, Laid wx → Calls Tryd.prog 25 #[.agg (v8 nm), .agg (v8 seed), .int .i64 1, .int .i64 0, .slice none 0 0] wx fun e w' => ∃ g, e = .returned (.tuple #[.slice (some ⟨g, 0, none⟩) 4332 4332, .int .i64 0]) ∧ wx.heap.size ≤ g ∧ Row w' g 5 (v8 (lsigL S nm seed 1 0 [])) ∧ Below wx.heap.size wx w' := fun wx hl => lSign_any S hS nm seed [] 1 0 none 0 0 wx hl hn hs rfl (by omega) (Bytes.nil _ _) (by omega) (by omega) (by decide)
  have hw6 : ∀ wx, Calls Tryd.prog 24 #[.int .i64 which, .int .i64 6] wx fun e w' => e = .returned (.int .i64 2) ∧ w' = wx := fun wx => by
    have := within6_any which 6 wx (by omega) (by omega)
    rwa [hwh] at this
  have hby : (by_ == 0) = false := by simpa using hb0
  have hOc : ∀ l, Oct (S l) := fun l => hS.oct l
  have hKl : (keyL 1 nm (nodeN S nm seed (2 ^ 1) 1)).length = 56 := keyL_len hn (nodeN_len (fun l => hS.len l) _ _ _ _)
  have hKo : Oct (keyL 1 nm (nodeN S nm seed (2 ^ 1) 1)) := oct_key hnr (oct_node hOc _ _ _ _)
  have hKg := key_gi (nm := nm) (top := nodeN S nm seed (2 ^ 1) 1)
  have hSl : (lsigL S nm seed 1 0 []).length = 4332 := lsigL_len (fun l => hS.len l) nm seed 1 0 []
  have hSo : Oct (lsigL S nm seed 1 0 []) := oct_lsig hOc nm seed 1 0 []
  generalize keyL 1 nm (nodeN S nm seed (2 ^ 1) 1) = KEY at *
  generalize lsigL S nm seed 1 0 [] = SIG at *
  clear hOc hwh
  go_enter Tryd.func13, Tryd.ntmps13
  go_upto_region 1 with fail
  have r0 : Row (World.alloc (World.alloc w0 (.cells (v8 nm) 22)) (.cells (v8 seed) 24)) w0.heap.size 22 (v8 nm) := (Row.new _ _ _).alloc _
  have r1 : Row (World.alloc (World.alloc w0 (.cells (v8 nm) 22)) (.cells (v8 seed) 24)) (w0.heap.size + 1) 24 (v8 seed) := Row.newAt _ _ _ _ (by simp)
  have b1 : Below w0.heap.size w0 (World.alloc (World.alloc w0 (.cells (v8 nm) 22)) (.cells (v8 seed) 24)) := ((Below.refl _ _).alloc (Nat.le_refl _) _).alloc (by simp) _
  change Code.wp _ _ _ _ ((World.alloc (World.alloc w0 (.cells (v8 nm) 22)) (.cells (v8 seed) 24)))
  generalize (World.alloc (World.alloc w0 (.cells (v8 nm) 22)) (.cells (v8 seed) 24)) = w1 at r0 r1 b1 ⊢
  go_upto_region 5 with (first | (go_at_call 21; (with_reducible refine Calls.mono (hK _ (hL.below b1)) ?_); rintro e w2 ⟨rfl, hb2⟩; have p0 := r0.below hb2 r0.lt; have p1 := r1.below hb2 r1.lt; have pb := b1.trans (hb2.mono b1.size)))
  clear r0 r1 b1 hb2 hK
  go_upto_region 6 with (first | (refine wpList_load_row (by rfl) 22 (.tmp 4) (by rfl) w0.heap.size (by rfl) 22 (v8 nm) (0, 0) _ p0 Tryd.underlying22 rfl (name_info hn) ?_) | (refine wpList_load_row (by rfl) 24 (.tmp 5) (by rfl) (w0.heap.size + 1) (by rfl) 24 (v8 seed) (0, 0) _ p1 Tryd.underlying24 rfl (id_info hs) ?_) | (go_at_call 22; (with_reducible refine Calls.mono (hP _ (hL.below pb)) ?_); rintro e w3 ⟨sp3, cap3, rfl, o3, hb3⟩))
  have q0 := p0.below hb3 p0.lt
  have q1 := p1.below hb3 p1.lt
  have qb := pb.trans (hb3.mono pb.size)
  have hq3 : w0.heap.size ≤ w2.heap.size := pb.size
  have hq4 : w2.heap.size ≤ w3.heap.size := hb3.size
  go_upto_region 7 with (first | (refine wpList_load_row (by rfl) 22 (.tmp 4) (by rfl) w0.heap.size (by rfl) 22 (v8 nm) (0, 0) _ q0 Tryd.underlying22 rfl (name_info hn) ?_) | (refine wpList_load_row (by rfl) 24 (.tmp 5) (by rfl) (w0.heap.size + 1) (by rfl) 24 (v8 seed) (0, 0) _ q1 Tryd.underlying24 rfl (id_info hs) ?_) | (go_at_call 25; (with_reducible refine Calls.mono (hSg _ (hL.below qb)) ?_); rintro e w4 ⟨gs, rfl, hgs, hrs, hb4⟩))
  have o4 := o3.below hb4 (Nat.le_refl _)
  have zb := qb.trans (hb4.mono qb.size)
  have hb43 : Below w3.heap.size w3 w4 := hb4
  have hcp := own_room o4 (by rw [hKl]; omega)
  have hcpI : (56 : Int) ≤ (cap3 : Int) := by omega
  obtain ⟨gp, cur, rfl, _, hgp, hrw, hcl⟩ := o4.row (by rw [hKl]; omega)
  have hgpl := hrw.lt
  rw [hKl] at hcl
  clear p0 p1 pb hb3 q0 q1 hP hSg
  have hck : Calls Tryd.prog 27 #[.slice (some ⟨gp, 0, none⟩) 55 cap3, .slice none 0 0, .slice (some ⟨gs, 0, none⟩) 4332 4332] w4 fun e w' => e = .returned (.int .i64 11) ∧ Below w4.heap.size w4 w' :=
    lCheck_key (KEY.take 55) (some ⟨gp, 0, none⟩) none (some ⟨gs, 0, none⟩) 55 cap3 0 0 4332 4332 w4 (by simp [hKl]) (by omega) (fun hp => by obtain ⟨b, o, e, hc⟩ := (o4.bytes.take 55) hp; exact ⟨b, o, e, hc⟩) (oct_take 55 hKo) (fun hk => by have := hk.1; simp [hKl] at this)
  go_wp2_with (first | (go_at_call 24; (with_reducible refine Calls.mono (hw6 _) ?_); rintro e w9 ⟨rfl, hw⟩; obtain rfl := hw.symm; clear hw) | (go_at_call 27; (with_reducible refine Calls.mono (hck) ?_); rintro e w8 ⟨rfl, hb8w⟩))
  go_ret
  exact ⟨rfl, zb.trans (hb8w.mono zb.size)⟩
set_option maxRecDepth 20000 in
set_option maxHeartbeats 1000000 in
theorem forms_three (S : List Int → List Int) (hS : Hash S) (nm seed : List Int) (which by_ : Int) (w0 : World) (hL : Laid w0) (hn : nm.length = 16) (hs : seed.length = 32) (hnr : Oct nm) (hb8 : 0 ≤ by_ ∧ by_ < 256) (hb0 : by_ ≠ 0) (hwh : which % 6 = 3) :
    Calls Tryd.prog 13 #[.agg (v8 nm), .agg (v8 seed), .int .i64 which, .int .u8 by_] w0 fun e w' => e = .returned (.bool true) ∧ Below w0.heap.size w0 w' := by
  have hK : ∀ wx, Laid wx → Calls Tryd.prog 21 #[] wx fun e w' => e = .returned (.bool true) ∧ Below wx.heap.size wx w' := fun wx hl => known6_any S hS wx hl
  have hP : ∀ wx, Laid wx → Calls Tryd.prog 22 #[.agg (v8 nm), .agg (v8 seed), .int .i64 1] wx fun e w' => ∃ sp cap, e = .returned (.tuple #[.slice sp 56 cap, .int .i64 0]) ∧ Own8 w' wx.heap.size 5 (.slice sp 56 cap) (keyL 1 nm (nodeN S nm seed (2 ^ 1) 1)) ∧ Below wx.heap.size wx w' := fun wx hl => lPublic_any S hS nm seed 1 wx hl hn hs (by omega) (by omega)
  have hSg : ∀ wx, Laid wx → Calls Tryd.prog 25 #[.agg (v8 nm), .agg (v8 seed), .int .i64 1, .int .i64 0, .slice none 0 0] wx fun e w' => ∃ g, e = .returned (.tuple #[.slice (some ⟨g, 0, none⟩) 4332 4332, .int .i64 0]) ∧ wx.heap.size ≤ g ∧ Row w' g 5 (v8 (lsigL S nm seed 1 0 [])) ∧ Below wx.heap.size wx w' := fun wx hl => lSign_any S hS nm seed [] 1 0 none 0 0 wx hl hn hs rfl (by omega) (Bytes.nil _ _) (by omega) (by omega) (by decide)
  have hw6 : ∀ wx, Calls Tryd.prog 24 #[.int .i64 which, .int .i64 6] wx fun e w' => e = .returned (.int .i64 3) ∧ w' = wx := fun wx => by
    have := within6_any which 6 wx (by omega) (by omega)
    rwa [hwh] at this
  have hby : (by_ == 0) = false := by simpa using hb0
  have hOc : ∀ l, Oct (S l) := fun l => hS.oct l
  have hKl : (keyL 1 nm (nodeN S nm seed (2 ^ 1) 1)).length = 56 := keyL_len hn (nodeN_len (fun l => hS.len l) _ _ _ _)
  have hKo : Oct (keyL 1 nm (nodeN S nm seed (2 ^ 1) 1)) := oct_key hnr (oct_node hOc _ _ _ _)
  have hKg := key_gi (nm := nm) (top := nodeN S nm seed (2 ^ 1) 1)
  have hSl : (lsigL S nm seed 1 0 []).length = 4332 := lsigL_len (fun l => hS.len l) nm seed 1 0 []
  have hSo : Oct (lsigL S nm seed 1 0 []) := oct_lsig hOc nm seed 1 0 []
  have hkk : keyOk (keyL 1 nm (nodeN S nm seed (2 ^ 1) 1)) := key_good (h := 1) hn (nodeN_len (fun l => hS.len l) _ _ _ _) (by omega) (by omega)
  have hkh : num4 (keyL 1 nm (nodeN S nm seed (2 ^ 1) 1)) 0 = ((1 : Nat) : Int) := key_height (by decide)
  have hSg4 := sig_gi (fun l => hS.len l) nm seed []
  generalize keyL 1 nm (nodeN S nm seed (2 ^ 1) 1) = KEY at *
  generalize lsigL S nm seed 1 0 [] = SIG at *
  clear hOc hwh
  go_enter Tryd.func13, Tryd.ntmps13
  go_upto_region 1 with fail
  have r0 : Row (World.alloc (World.alloc w0 (.cells (v8 nm) 22)) (.cells (v8 seed) 24)) w0.heap.size 22 (v8 nm) := (Row.new _ _ _).alloc _
  have r1 : Row (World.alloc (World.alloc w0 (.cells (v8 nm) 22)) (.cells (v8 seed) 24)) (w0.heap.size + 1) 24 (v8 seed) := Row.newAt _ _ _ _ (by simp)
  have b1 : Below w0.heap.size w0 (World.alloc (World.alloc w0 (.cells (v8 nm) 22)) (.cells (v8 seed) 24)) := ((Below.refl _ _).alloc (Nat.le_refl _) _).alloc (by simp) _
  change Code.wp _ _ _ _ ((World.alloc (World.alloc w0 (.cells (v8 nm) 22)) (.cells (v8 seed) 24)))
  generalize (World.alloc (World.alloc w0 (.cells (v8 nm) 22)) (.cells (v8 seed) 24)) = w1 at r0 r1 b1 ⊢
  go_upto_region 5 with (first | (go_at_call 21; (with_reducible refine Calls.mono (hK _ (hL.below b1)) ?_); rintro e w2 ⟨rfl, hb2⟩; have p0 := r0.below hb2 r0.lt; have p1 := r1.below hb2 r1.lt; have pb := b1.trans (hb2.mono b1.size)))
  clear r0 r1 b1 hb2 hK
  go_upto_region 6 with (first | (refine wpList_load_row (by rfl) 22 (.tmp 4) (by rfl) w0.heap.size (by rfl) 22 (v8 nm) (0, 0) _ p0 Tryd.underlying22 rfl (name_info hn) ?_) | (refine wpList_load_row (by rfl) 24 (.tmp 5) (by rfl) (w0.heap.size + 1) (by rfl) 24 (v8 seed) (0, 0) _ p1 Tryd.underlying24 rfl (id_info hs) ?_) | (go_at_call 22; (with_reducible refine Calls.mono (hP _ (hL.below pb)) ?_); rintro e w3 ⟨sp3, cap3, rfl, o3, hb3⟩))
  have q0 := p0.below hb3 p0.lt
  have q1 := p1.below hb3 p1.lt
  have qb := pb.trans (hb3.mono pb.size)
  have hq3 : w0.heap.size ≤ w2.heap.size := pb.size
  have hq4 : w2.heap.size ≤ w3.heap.size := hb3.size
  go_upto_region 7 with (first | (refine wpList_load_row (by rfl) 22 (.tmp 4) (by rfl) w0.heap.size (by rfl) 22 (v8 nm) (0, 0) _ q0 Tryd.underlying22 rfl (name_info hn) ?_) | (refine wpList_load_row (by rfl) 24 (.tmp 5) (by rfl) (w0.heap.size + 1) (by rfl) 24 (v8 seed) (0, 0) _ q1 Tryd.underlying24 rfl (id_info hs) ?_) | (go_at_call 25; (with_reducible refine Calls.mono (hSg _ (hL.below qb)) ?_); rintro e w4 ⟨gs, rfl, hgs, hrs, hb4⟩))
  have o4 := o3.below hb4 (Nat.le_refl _)
  have zb := qb.trans (hb4.mono qb.size)
  have hb43 : Below w3.heap.size w3 w4 := hb4
  have hcp := own_room o4 (by rw [hKl]; omega)
  have hcpI : (56 : Int) ≤ (cap3 : Int) := by omega
  obtain ⟨gp, cur, rfl, _, hgp, hrw, hcl⟩ := o4.row (by rw [hKl]; omega)
  have hgpl := hrw.lt
  rw [hKl] at hcl
  clear p0 p1 pb hb3 q0 q1 hP hSg
  have hx := xor_not1 ⟨by_.toNat, by omega⟩ (by show by_.toNat ≠ 0; omega)
  rw [show ((by_.toNat : Nat) : Int) = by_ by omega] at hx
  obtain ⟨V, hV⟩ : ∃ V, bits .xor .u8 1 by_ = V := ⟨_, rfl⟩
  rw [hV] at hx
  have c99 : w4.cell? ⟨gs, 4299, none⟩ = some (.int .u8 1) := by
    rw [hrs.cell8 (by omega)]
    have := hSg4 3 (by omega)
    rw [show (4296 + 3 : Nat) = 4299 by omega] at this
    rw [this]; rfl
  have f99 := hrs.frozen (j := 4299)
  have hn96 : num4 (SIG.set 4299 V) 4296 ≠ ((1 : Nat) : Int) := by
    have g0 := hSg4 0 (by omega)
    have g1 := hSg4 1 (by omega)
    have g2 := hSg4 2 (by omega)
    unfold num4
    rw [gi_set (by omega), gi_set (by omega), gi_set (by omega), gi_set (by omega), if_neg (by omega), if_neg (by omega), if_neg (by omega), if_pos (by omega)]
    rw [show (4296 : Nat) = 4296 + 0 by omega, g0, show (4296 + 0 + 1 : Nat) = 4296 + 1 by omega, g1, show (4296 + 0 + 2 : Nat) = 4296 + 2 by omega, g2, show gi (n4 1) 0 = 0 by rfl, show gi (n4 1) 1 = 0 by rfl, show gi (n4 1) 2 = 0 by rfl]
    have := hx.1
    omega
  have hbs : Bytes (w4.setCell ⟨gs, 4299, none⟩ (.int .u8 V)) (some ⟨gs, 0, none⟩) (SIG.set 4299 V) := bytes_set 4299 V (by omega) (fun i hi => hrs.cell8 hi)
  have hbd : Below w3.heap.size w3 (w4.setCell ⟨gs, 4299, none⟩ (.int .u8 V)) := hb43.setCell (by show w3.heap.size ≤ gs; omega) _
  have hbp := (o3.below hbd (Nat.le_refl _)).bytes
  have yb : Below w0.heap.size w0 (w4.setCell ⟨gs, 4299, none⟩ (.int .u8 V)) := zb.setCell (by show w0.heap.size ≤ gs; omega) _
  have hck : ∀ wx, wx = w4.setCell ⟨gs, 4299, none⟩ (.int .u8 V) → Calls Tryd.prog 27 #[.slice (some ⟨gp, 0, none⟩) 56 cap3, .slice none 0 0, .slice (some ⟨gs, 0, none⟩) 4332 4332] wx fun e w' => e = .returned (.int .i64 12) ∧ Below wx.heap.size wx w' := by
    rintro wx rfl
    exact lCheck_high KEY (some ⟨gp, 0, none⟩) none (some ⟨gs, 0, none⟩) 56 cap3 0 0 4332 4332 _ hKl (by omega) hbp hKo (SIG.set 4299 V) (by rw [List.length_set, hSl]) (by omega) hbs (oct_set hSo hx.2) 1 hkk hkh (by omega) hn96
  clear hx
  go_wp2_with (first | (go_at_call 24; (with_reducible refine Calls.mono (hw6 _) ?_); rintro e w9 ⟨rfl, hw⟩; obtain rfl := hw.symm; clear hw) | (go_at_call 27; (with_reducible refine Calls.mono (hck _ rfl) ?_); rintro e w8 ⟨rfl, hb8w⟩))
  go_ret
  exact ⟨rfl, yb.trans (hb8w.mono yb.size)⟩
end Go.Proofs.YtoebnkepeledmaaDoor
