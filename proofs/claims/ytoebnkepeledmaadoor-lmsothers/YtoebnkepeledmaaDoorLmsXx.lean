/- LmsForms returns true: the key as it was; a byte too many. -/
import Derived.Test.YtoebnkepeledmaaDoorLmsWx
namespace Go.Proofs.YtoebnkepeledmaaDoor
open Go Go.RowKit

theorem set_same {l : List Int} {k : Nat} {v : Int} (hk : k < l.length) (h : gi l k = v) : l.set k v = l := by
  apply List.ext_getElem?
  intro i
  rw [List.getElem?_set]
  by_cases e : k = i
  · subst e
    simp only [gi, List.getD_eq_getElem?_getD, List.getElem?_eq_getElem hk, Option.getD_some] at h
    simp [hk, h]
  · simp [e]
set_option maxRecDepth 20000 in
set_option maxHeartbeats 1000000 in
theorem forms_same (S : List Int → List Int) (hS : Hash S) (nm seed : List Int) (which by_ : Int) (w0 : World) (hL : Laid w0) (hn : nm.length = 16) (hs : seed.length = 32) (hnr : Oct nm) (hb8 : 0 ≤ by_ ∧ by_ < 256) (hb0 : by_ ≠ 0) (hwh : which % 6 = 0) (hmm : by_ % 100 = 0) :
    Calls Tryd.prog 13 #[.agg (v8 nm), .agg (v8 seed), .int .i64 which, .int .u8 by_] w0 fun e w' => e = .returned (.bool true) ∧ Below w0.heap.size w0 w' := by
  have hK : ∀ wx, Laid wx → Calls Tryd.prog 21 #[] wx fun e w' => e = .returned (.bool true) ∧ Below wx.heap.size wx w' := fun wx hl => known6_any S hS wx hl
  have hP : ∀ wx, Laid wx → Calls Tryd.prog 22 #[.agg (v8 nm), .agg (v8 seed), .int .i64 1] wx fun e w' => ∃ sp cap, e = .returned (.tuple #[.slice sp 56 cap, .int .i64 0]) ∧ Own8 w' wx.heap.size 5 (.slice sp 56 cap) (keyL 1 nm (nodeN S nm seed (2 ^ 1) 1)) ∧ Below wx.heap.size wx w' := fun wx hl => lPublic_any S hS nm seed 1 wx hl hn hs (by omega) (by omega)
  have hSg : ∀ wx, Laid wx → Calls Tryd.prog 25 #[.agg (v8 nm), .agg (v8 seed), .int .i64 1, .int .i64 0, .slice none 0 0] wx fun e w' => ∃ g, e = .returned (.tuple #[.slice (some ⟨g, 0, none⟩) 4332 4332, .int .i64 0]) ∧ wx.heap.size ≤ g ∧ Row w' g 5 (v8 (lsigL S nm seed 1 0 [])) ∧ Below wx.heap.size wx w' := fun wx hl => lSign_any S hS nm seed [] 1 0 none 0 0 wx hl hn hs rfl (by omega) (Bytes.nil _ _) (by omega) (by omega) (by decide)
  have hw6 : ∀ wx, Calls Tryd.prog 24 #[.int .i64 which, .int .i64 6] wx fun e w' => e = .returned (.int .i64 0) ∧ w' = wx := fun wx => by
    have := within6_any which 6 wx (by omega) (by omega)
    rwa [hwh] at this
  have hby : (by_ == 0) = false := by simpa using hb0
  have hOc : ∀ l, Oct (S l) := fun l => hS.oct l
  have hKl : (keyL 1 nm (nodeN S nm seed (2 ^ 1) 1)).length = 56 := keyL_len hn (nodeN_len (fun l => hS.len l) _ _ _ _)
  have hKo : Oct (keyL 1 nm (nodeN S nm seed (2 ^ 1) 1)) := oct_key hnr (oct_node hOc _ _ _ _)
  have hKg := key_gi (nm := nm) (top := nodeN S nm seed (2 ^ 1) 1)
  have hSl : (lsigL S nm seed 1 0 []).length = 4332 := lsigL_len (fun l => hS.len l) nm seed 1 0 []
  have hSo : Oct (lsigL S nm seed 1 0 []) := oct_lsig hOc nm seed 1 0 []
  have hpp := sig_parts (fun l => hS.len l) nm seed 1 0 [] (by omega) (by omega)
  have hTl := nodeN_len (fun l => hS.len l) nm seed (2 ^ 1) 1
  have hkk : keyOk (keyL 1 nm (nodeN S nm seed (2 ^ 1) 1)) := key_good (h := 1) hn hTl (by omega) (by omega)
  have hkh : num4 (keyL 1 nm (nodeN S nm seed (2 ^ 1) 1)) 0 = ((1 : Nat) : Int) := key_height (by decide)
  have hty : (((lsigL S nm seed 1 0 []).drop 4).take 4292).take 4 = n4 2 := by rw [hpp.2.2.1, sig_type]
  have htop : climbL S (((keyL 1 nm (nodeN S nm seed (2 ^ 1) 1)).drop 8).take 16) (2 ^ 1 + 0) (backL S (((keyL 1 nm (nodeN S nm seed (2 ^ 1) 1)).drop 8).take 16 ++ n4 ((0 : Nat) : Int)) [] (((lsigL S nm seed 1 0 []).drop 4).take 4292)) ((lsigL S nm seed 1 0 []).drop 4300) 1 = cutL (keyL 1 nm (nodeN S nm seed (2 ^ 1) 1)) 24 := by
    rw [key_name hn, key_top hn hTl, hpp.2.2.1, hpp.2.2.2, back_sig (fun l => hS.len l)]
    exact climb_root (fun l => hS.len l) nm seed 1 0 (by omega) (by decide)
  have h96 := hpp.2.1
  have h00 := hpp.1
  clear hpp
  generalize keyL 1 nm (nodeN S nm seed (2 ^ 1) 1) = KEY at *
  generalize lsigL S nm seed 1 0 [] = SIG at *
  clear hOc hwh
  go_enter Tryd.func13, Tryd.ntmps13
  go_upto_region 1 with fail
  have r0 : Row (World.alloc (World.alloc w0 (.cells (v8 nm) 22)) (.cells (v8 seed) 24)) w0.heap.size 22 (v8 nm) := (Row.new _ _ _).alloc _
  have r1 : Row (World.alloc (World.alloc w0 (.cells (v8 nm) 22)) (.cells (v8 seed) 24)) (w0.heap.size + 1) 24 (v8 seed) := Row.newAt _ _ _ _ (by simp)
  have b1 : Below w0.heap.size w0 (World.alloc (World.alloc w0 (.cells (v8 nm) 22)) (.cells (v8 seed) 24)) := ((Below.refl _ _).alloc (Nat.le_refl _) _).alloc (by simp) _
  change Code.wp _ _ _ _ ((World.alloc (World.alloc w0 (.cells (v8 nm) 22)) (.cells (v8 seed) 24)))
  generalize (World.alloc (World.alloc w0 (.cells (v8 nm) 22)) (.cells (v8 seed) 24)) = w1 at r0 r1 b1 ⊢
  go_upto_region 5 with (first | (go_at_call 21; (with_reducible refine Calls.mono (hK _ (hL.below b1)) ?_); rintro e w2 ⟨rfl, hb2⟩; have p0 := r0.below hb2 r0.lt; have p1 := r1.below hb2 r1.lt; have pb := b1.trans (hb2.mono b1.size)))
  clear r0 r1 b1 hb2 hK
  go_upto_region 6 with (first | (refine wpList_load_row (by rfl) 22 (.tmp 4) (by rfl) w0.heap.size (by rfl) 22 (v8 nm) (0, 0) _ p0 Tryd.underlying22 rfl (name_info hn) ?_) | (refine wpList_load_row (by rfl) 24 (.tmp 5) (by rfl) (w0.heap.size + 1) (by rfl) 24 (v8 seed) (0, 0) _ p1 Tryd.underlying24 rfl (id_info hs) ?_) | (go_at_call 22; (with_reducible refine Calls.mono (hP _ (hL.below pb)) ?_); rintro e w3 ⟨sp3, cap3, rfl, o3, hb3⟩))
  have q0 := p0.below hb3 p0.lt
  have q1 := p1.below hb3 p1.lt
  have qb := pb.trans (hb3.mono pb.size)
  have hq3 : w0.heap.size ≤ w2.heap.size := pb.size
  have hq4 : w2.heap.size ≤ w3.heap.size := hb3.size
  go_upto_region 7 with (first | (refine wpList_load_row (by rfl) 22 (.tmp 4) (by rfl) w0.heap.size (by rfl) 22 (v8 nm) (0, 0) _ q0 Tryd.underlying22 rfl (name_info hn) ?_) | (refine wpList_load_row (by rfl) 24 (.tmp 5) (by rfl) (w0.heap.size + 1) (by rfl) 24 (v8 seed) (0, 0) _ q1 Tryd.underlying24 rfl (id_info hs) ?_) | (go_at_call 25; (with_reducible refine Calls.mono (hSg _ (hL.below qb)) ?_); rintro e w4 ⟨gs, rfl, hgs, hrs, hb4⟩))
  have o4 := o3.below hb4 (Nat.le_refl _)
  have zb := qb.trans (hb4.mono qb.size)
  have hb43 : Below w3.heap.size w3 w4 := hb4
  have hcp := own_room o4 (by rw [hKl]; omega)
  have hcpI : (56 : Int) ≤ (cap3 : Int) := by omega
  obtain ⟨gp, cur, rfl, _, hgp, hrw, hcl⟩ := o4.row (by rw [hKl]; omega)
  have hgpl := hrw.lt
  rw [hKl] at hcl
  clear p0 p1 pb hb3 q0 q1 hP hSg
  obtain ⟨_, _, he3, _, _, hrw3, _⟩ := o3.row (by rw [hKl]; omega)
  cases he3
  have hgp3 := hrw3.lt
  clear hrw3
  obtain ⟨m, hm⟩ : ∃ m, m = by_ % 100 := ⟨_, rfl⟩
  have hm0 : 0 ≤ m ∧ m < 100 := by omega
  have t100 : by_.tmod 100 = m := by rw [Int.tmod_eq_emod_of_nonneg (by omega), hm]
  rw [← hm] at hmm
  clear hm
  have hwr : IntKind.wrap .u8 (1 + m) = 1 := by rw [hmm]; decide
  have hsame : KEY.set 3 1 = KEY := set_same (by omega) hKg.2.2.2.1
  clear hmm hm0
  have ck := hcl 3 (by omega)
  have fk := hrw.frozen (j := 3)
  have hbp : Bytes (w4.setCell ⟨gp, 3, none⟩ (.int .u8 1)) (some ⟨gp, 0, none⟩) (KEY.set 3 1) := bytes_set 3 1 (by omega) (fun i hi => hcl i (by omega))
  have ys := hrs.setOther (a := ⟨gp, 3, none⟩) (by show gs ≠ gp; omega) (.int .u8 1)
  have yb : Below w0.heap.size w0 (w4.setCell ⟨gp, 3, none⟩ (.int .u8 1)) := zb.setCell (by show w0.heap.size ≤ gp; omega) _
  have hck : ∀ wx, Laid wx → Bytes wx (some ⟨gp, 0, none⟩) (KEY.set 3 1) → Row wx gs 5 (v8 SIG) → Calls Tryd.prog 27 #[.slice (some ⟨gp, 0, none⟩) 56 cap3, .slice none 0 0, .slice (some ⟨gs, 0, none⟩) 4332 4332] wx fun e w' => e = .returned (.int .i64 0) ∧ Below wx.heap.size wx w' := fun wx hlx hbx hrx => by
    rw [hsame] at hbx
    exact lCheck_ok KEY (some ⟨gp, 0, none⟩) none (some ⟨gs, 0, none⟩) 56 cap3 0 0 4332 4332 wx hKl (by omega) hbx hKo SIG hSl (by omega) hrx.bytes hSo 1 hkk hkh S hS [] rfl (by omega) (Bytes.nil _ _) hlx (by omega) h96 0 h00 (by decide) hty htop
  go_upto_region 11 with (go_at_call 24; (with_reducible refine Calls.mono (hw6 _) ?_); rintro e w9 ⟨rfl, hw⟩; obtain rfl := hw.symm; clear hw)
  generalize hw5 : w4.setCell ⟨gp, 3, none⟩ (.int .u8 1) = w5 at *
  have c3 : w5.cell? ⟨gp, 3, none⟩ = some (.int .u8 1) := by
    obtain ⟨b, o, e, hc⟩ := hbp (by rw [List.length_set]; omega)
    injection e with e
    injection e with e1 e2
    subst e1 e2
    have := hc 3 (by rw [List.length_set]; omega)
    rwa [gi_set (by omega), if_pos rfl] at this
  clear hw5 ck fk hKg
  go_wp2_with (go_at_call 27; (with_reducible refine Calls.mono (hck _ (hL.below yb) hbp ys) ?_); rintro e w8 ⟨rfl, hb8w⟩)
  go_ret
  exact ⟨rfl, yb.trans (hb8w.mono yb.size)⟩
set_option maxRecDepth 20000 in
set_option maxHeartbeats 1000000 in
theorem forms_four (S : List Int → List Int) (hS : Hash S) (nm seed : List Int) (which by_ : Int) (w0 : World) (hL : Laid w0) (hn : nm.length = 16) (hs : seed.length = 32) (hnr : Oct nm) (hb0 : by_ ≠ 0) (hwh : which % 6 = 4) :
    Calls Tryd.prog 13 #[.agg (v8 nm), .agg (v8 seed), .int .i64 which, .int .u8 by_] w0 fun e w' => e = .returned (.bool true) ∧ Below w0.heap.size w0 w' := by
  have hK : ∀ wx, Laid wx → Calls Tryd.prog 21 #[] wx fun e w' => e = .returned (.bool true) ∧ Below wx.heap.size wx w' := fun wx hl => known6_any S hS wx hl
  have hP : ∀ wx, Laid wx → Calls Tryd.prog 22 #[.agg (v8 nm), .agg (v8 seed), .int .i64 1] wx fun e w' => ∃ sp cap, e = .returned (.tuple #[.slice sp 56 cap, .int .i64 0]) ∧ Own8 w' wx.heap.size 5 (.slice sp 56 cap) (keyL 1 nm (nodeN S nm seed (2 ^ 1) 1)) ∧ Below wx.heap.size wx w' := fun wx hl => lPublic_any S hS nm seed 1 wx hl hn hs (by omega) (by omega)
  have hSg : ∀ wx, Laid wx → Calls Tryd.prog 25 #[.agg (v8 nm), .agg (v8 seed), .int .i64 1, .int .i64 0, .slice none 0 0] wx fun e w' => ∃ g, e = .returned (.tuple #[.slice (some ⟨g, 0, none⟩) 4332 4332, .int .i64 0]) ∧ wx.heap.size ≤ g ∧ Row w' g 5 (v8 (lsigL S nm seed 1 0 [])) ∧ Below wx.heap.size wx w' := fun wx hl => lSign_any S hS nm seed [] 1 0 none 0 0 wx hl hn hs rfl (by omega) (Bytes.nil _ _) (by omega) (by omega) (by decide)
  have hw6 : ∀ wx, Calls Tryd.prog 24 #[.int .i64 which, .int .i64 6] wx fun e w' => e = .returned (.int .i64 4) ∧ w' = wx := fun wx => by
    have := within6_any which 6 wx (by omega) (by omega)
    rwa [hwh] at this
  have hby : (by_ == 0) = false := by simpa using hb0
  have hOc : ∀ l, Oct (S l) := fun l => hS.oct l
  have hKl : (keyL 1 nm (nodeN S nm seed (2 ^ 1) 1)).length = 56 := keyL_len hn (nodeN_len (fun l => hS.len l) _ _ _ _)
  have hKo : Oct (keyL 1 nm (nodeN S nm seed (2 ^ 1) 1)) := oct_key hnr (oct_node hOc _ _ _ _)
  have hKg := key_gi (nm := nm) (top := nodeN S nm seed (2 ^ 1) 1)
  have hSl : (lsigL S nm seed 1 0 []).length = 4332 := lsigL_len (fun l => hS.len l) nm seed 1 0 []
  have hSo : Oct (lsigL S nm seed 1 0 []) := oct_lsig hOc nm seed 1 0 []
  have hkk : keyOk (keyL 1 nm (nodeN S nm seed (2 ^ 1) 1)) := key_good (h := 1) hn (nodeN_len (fun l => hS.len l) _ _ _ _) (by omega) (by omega)
  have hkh : num4 (keyL 1 nm (nodeN S nm seed (2 ^ 1) 1)) 0 = ((1 : Nat) : Int) := key_height (by decide)
  generalize keyL 1 nm (nodeN S nm seed (2 ^ 1) 1) = KEY at *
  generalize lsigL S nm seed 1 0 [] = SIG at *
  clear hOc hwh
  go_enter Tryd.func13, Tryd.ntmps13
  go_upto_region 1 with fail
  have r0 : Row (World.alloc (World.alloc w0 (.cells (v8 nm) 22)) (.cells (v8 seed) 24)) w0.heap.size 22 (v8 nm) := (Row.new _ _ _).alloc _
  have r1 : Row (World.alloc (World.alloc w0 (.cells (v8 nm) 22)) (.cells (v8 seed) 24)) (w0.heap.size + 1) 24 (v8 seed) := Row.newAt _ _ _ _ (by simp)
  have b1 : Below w0.heap.size w0 (World.alloc (World.alloc w0 (.cells (v8 nm) 22)) (.cells (v8 seed) 24)) := ((Below.refl _ _).alloc (Nat.le_refl _) _).alloc (by simp) _
  change Code.wp _ _ _ _ ((World.alloc (World.alloc w0 (.cells (v8 nm) 22)) (.cells (v8 seed) 24)))
  generalize (World.alloc (World.alloc w0 (.cells (v8 nm) 22)) (.cells (v8 seed) 24)) = w1 at r0 r1 b1 ⊢
  go_upto_region 5 with (first | (go_at_call 21; (with_reducible refine Calls.mono (hK _ (hL.below b1)) ?_); rintro e w2 ⟨rfl, hb2⟩; have p0 := r0.below hb2 r0.lt; have p1 := r1.below hb2 r1.lt; have pb := b1.trans (hb2.mono b1.size)))
  clear r0 r1 b1 hb2 hK
  go_upto_region 6 with (first | (refine wpList_load_row (by rfl) 22 (.tmp 4) (by rfl) w0.heap.size (by rfl) 22 (v8 nm) (0, 0) _ p0 Tryd.underlying22 rfl (name_info hn) ?_) | (refine wpList_load_row (by rfl) 24 (.tmp 5) (by rfl) (w0.heap.size + 1) (by rfl) 24 (v8 seed) (0, 0) _ p1 Tryd.underlying24 rfl (id_info hs) ?_) | (go_at_call 22; (with_reducible refine Calls.mono (hP _ (hL.below pb)) ?_); rintro e w3 ⟨sp3, cap3, rfl, o3, hb3⟩))
  have q0 := p0.below hb3 p0.lt
  have q1 := p1.below hb3 p1.lt
  have qb := pb.trans (hb3.mono pb.size)
  have hq3 : w0.heap.size ≤ w2.heap.size := pb.size
  have hq4 : w2.heap.size ≤ w3.heap.size := hb3.size
  go_upto_region 7 with (first | (refine wpList_load_row (by rfl) 22 (.tmp 4) (by rfl) w0.heap.size (by rfl) 22 (v8 nm) (0, 0) _ q0 Tryd.underlying22 rfl (name_info hn) ?_) | (refine wpList_load_row (by rfl) 24 (.tmp 5) (by rfl) (w0.heap.size + 1) (by rfl) 24 (v8 seed) (0, 0) _ q1 Tryd.underlying24 rfl (id_info hs) ?_) | (go_at_call 25; (with_reducible refine Calls.mono (hSg _ (hL.below qb)) ?_); rintro e w4 ⟨gs, rfl, hgs, hrs, hb4⟩))
  have o4 := o3.below hb4 (Nat.le_refl _)
  have zb := qb.trans (hb4.mono qb.size)
  have hb43 : Below w3.heap.size w3 w4 := hb4
  have hcp := own_room o4 (by rw [hKl]; omega)
  have hcpI : (56 : Int) ≤ (cap3 : Int) := by omega
  obtain ⟨gp, cur, rfl, _, hgp, hrw, hcl⟩ := o4.row (by rw [hKl]; omega)
  have hgpl := hrw.lt
  rw [hKl] at hcl
  clear p0 p1 pb hb3 q0 q1 hP hSg
  have o5 := (own8_row hrs hSl (by unfold maxLen; omega)).below ((Below.refl w4.heap.size w4).alloc (Nat.le_refl _) (.cells (v8 [by_]) 5)) (Nat.le_refl _)
  have hby5 := (Row.new w4 5 (v8 [by_])).bytes
  have hgsl := hrs.lt
  have hl1 : SIG.length + 1 ≤ 70368744177664 := by omega
  have hB1 : gs ≤ (w4.alloc (.cells (v8 [by_]) 5)).heap.size := by simp; omega
  have hl2 : (SIG ++ [by_]).length = 4333 := by rw [List.length_append, hSl]; rfl
  have zb5 := zb.alloc zb.size (.cells (v8 [by_]) 5)
  have xb5 := hb43.alloc hb43.size (.cells (v8 [by_]) 5)
  have hgw : w0.heap.size ≤ gs := by omega
  have hck : ∀ wx sp5 cap5, Own8 wx gs 5 (.slice sp5 4333 cap5) (SIG ++ [by_]) → Below w3.heap.size w3 wx → Calls Tryd.prog 27 #[.slice (some ⟨gp, 0, none⟩) 56 cap3, .slice none 0 0, .slice sp5 4333 cap5] wx fun e w' => e = .returned (.int .i64 12) ∧ Below wx.heap.size wx w' := fun wx sp5 cap5 _ hbx =>
    lCheck_len KEY (some ⟨gp, 0, none⟩) none sp5 56 cap3 0 0 4333 cap5 wx hKl (by omega) (o3.below hbx (Nat.le_refl _)).bytes hKo 1 hkk hkh (by omega)
  go_wp2_with (first | (go_at_call 24; (with_reducible refine Calls.mono (hw6 _) ?_); rintro e w9 ⟨rfl, hw⟩; obtain rfl := hw.symm; clear hw) | (at_builtin; (refine append8 (.tmp 73) (.tmp 75) 28 5 (by rfl) (by rfl) gs Tryd.underlying28 info5 (.slice (some ⟨gs, 0, none⟩) 4332 4332) SIG (by rfl) ?ho (some ⟨w4.heap.size, 0, none⟩) 1 1 [by_] (by rfl) rfl ?hnil ?hby ?hlen ?hB ?_; (case ho => exact o5); (case hnil => exact (fun h => by cases h)); (case hby => exact hby5); (case hlen => exact hl1); (case hB => exact hB1); rw [hl2]; intro sp5 cap5 w5 o6 hb5; have y5 := zb5.trans (hb5.mono hgw); have x5 := xb5.trans (hb5.mono hgs))) | (go_at_call 27; (with_reducible refine Calls.mono (hck _ _ _ o6 x5) ?_); rintro e w8 ⟨rfl, hb8w⟩))
  go_ret
  exact ⟨rfl, y5.trans (hb8w.mono y5.size)⟩
theorem in8_oct {l : List Int} (h : In8 l) : Oct l := fun x hx => by
  obtain ⟨i, hi, rfl⟩ := List.mem_iff_getElem.1 hx
  have := h i
  simpa [gi, List.getD_eq_getElem?_getD, List.getElem?_eq_getElem hi] using this
theorem forms_any (S : List Int → List Int) (hS : Hash S) (nm seed : List Int) (which by_ : Int) (w0 : World) (hL : Laid w0) (hn : nm.length = 16) (hs : seed.length = 32) (hnr : Oct nm) (hb8 : 0 ≤ by_ ∧ by_ < 256) :
    Calls Tryd.prog 13 #[.agg (v8 nm), .agg (v8 seed), .int .i64 which, .int .u8 by_] w0 fun e w' => e = .returned (.bool true) ∧ Below w0.heap.size w0 w' := by
  by_cases hb0 : by_ = 0
  · subst hb0
    exact forms_zero nm seed S hS which w0 hL
  · rcases (by omega : which % 6 = 0 ∨ which % 6 = 1 ∨ which % 6 = 2 ∨ which % 6 = 3 ∨ which % 6 = 4 ∨ which % 6 = 5) with h | h | h | h | h | h
    · by_cases h5 : 5 ≤ by_ % 100
      · exact forms_high S hS nm seed which by_ w0 hL hn hs hnr hb8 hb0 h h5
      · by_cases h1 : by_ % 100 = 0
        · exact forms_same S hS nm seed which by_ w0 hL hn hs hnr hb8 hb0 h h1
        · exact forms_other S hS nm seed which by_ w0 hL hn hs hnr hb8 hb0 h (by omega)
    · exact forms_one S hS nm seed which by_ w0 hL hn hs hnr hb8 hb0 h
    · exact forms_two S hS nm seed which by_ w0 hL hn hs hnr hb0 h
    · exact forms_three S hS nm seed which by_ w0 hL hn hs hnr hb8 hb0 h
    · exact forms_four S hS nm seed which by_ w0 hL hn hs hnr hb0 h
    · exact forms_five S hS nm seed which by_ w0 hL hn hs hnr hb8 hb0 h
end Go.Proofs.YtoebnkepeledmaaDoor
