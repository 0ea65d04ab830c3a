/- LmsOthers returns true and turns no old memory. -/
import Derived.Test.YtoebnkepeledmaaDoorGn
import Derived.Test.YtoebnkepeledmaaDoorLmsXx
namespace Go.Proofs.YtoebnkepeledmaaDoor
open Go Go.RowKit

theorem Own8.setLow {w : World} {B : Nat} {e : TypeId} {v : Value} {l : List Int} (h : Own8 w B e v l) {p : Addr} (hp : p.block < B) (u : Value) : Own8 (w.setCell p u) B e v l := by
  obtain ⟨hl, h⟩ := h
  refine ⟨hl, ?_⟩
  rcases h with h | ⟨g, cap', cur, hv, hg, hh, r⟩
  · exact .inl h
  · exact .inr ⟨g, cap', cur, hv, hg, Row.setOther (t := e) (vs := cur) hh (by omega) u, r⟩
theorem own8_cap {w : World} {B n cap : Nat} {e : TypeId} {sp : Option Addr} {l : List Int} (h : Own8 w B e (.slice sp n cap) l) : n ≤ cap := by
  obtain ⟨_, h⟩ := h
  rcases h with ⟨h1, h2⟩ | ⟨g', cap', cur, hv, _, _, h5, _⟩
  · injection h1 with h3 h4 h5; omega
  · injection hv with h3 h4 h6; omega
set_option maxRecDepth 20000 in
set_option maxHeartbeats 4000000 in
theorem others_any (S : List Int → List Int) (hS : Hash S) (nm seed msg : List Int) (q0 by_ : Int) (mp : Option Addr) (ml mc : Nat) (w0 : World) (hL : Laid w0) (hn : nm.length = 16) (hs : seed.length = 32) (hnr : Oct nm) (hml : msg.length = ml) (hmn : mp = none → mc = 0 ∧ ml = 0) (hmb : Bytes w0 mp msg) (_hb8 : 0 ≤ by_ ∧ by_ < 256) :
    Calls Tryd.prog 11 #[.agg (v8 nm), .agg (v8 seed), .int .i64 q0, .slice mp ml mc, .int .u8 by_] w0 fun e w' => e = .returned (.bool true) ∧ Below w0.heap.size w0 w' := by
  have hK : ∀ wx, Laid wx → Calls Tryd.prog 21 #[] wx fun e w' => e = .returned (.bool true) ∧ Below wx.heap.size wx w' := fun wx hl => known6_any S hS wx hl
  have r0 : Row (World.alloc (World.alloc w0 (.cells (v8 nm) 22)) (.cells (v8 seed) 24)) w0.heap.size 22 (v8 nm) := (Row.new _ _ _).alloc _
  have r1 : Row (World.alloc (World.alloc w0 (.cells (v8 nm) 22)) (.cells (v8 seed) 24)) (w0.heap.size + 1) 24 (v8 seed) := Row.newAt _ _ _ _ (by simp)
  have b1 : Below w0.heap.size w0 (World.alloc (World.alloc w0 (.cells (v8 nm) 22)) (.cells (v8 seed) 24)) := ((Below.refl _ _).alloc (Nat.le_refl _) _).alloc (by simp) _
  by_cases h200 : ml > 200
  · have h200i : (200 : Int) < ml := by omega
    clear hml hmn hmb
    go_enter Tryd.func11, Tryd.ntmps11
    go_upto_region 1 with fail
    change Code.wp _ _ _ _ ((World.alloc (World.alloc w0 (.cells (v8 nm) 22)) (.cells (v8 seed) 24)))
    generalize (World.alloc (World.alloc w0 (.cells (v8 nm) 22)) (.cells (v8 seed) 24)) = w1 at r0 r1 b1 ⊢
    go_wp2_with (go_at_call 21; (with_reducible refine Calls.mono (hK _ (hL.below b1)) ?_); rintro e w2 ⟨rfl, hb2⟩)
    go_ret
    exact ⟨rfl, b1.trans (hb2.mono b1.size)⟩
  have h200i : (ml : Int) ≤ 200 := by omega
  by_cases hby0 : by_ = 0
  · have hbyb : (by_ == 0) = true := by simpa using hby0
    clear hml hmn hmb hby0
    go_enter Tryd.func11, Tryd.ntmps11
    go_upto_region 1 with fail
    change Code.wp _ _ _ _ ((World.alloc (World.alloc w0 (.cells (v8 nm) 22)) (.cells (v8 seed) 24)))
    generalize (World.alloc (World.alloc w0 (.cells (v8 nm) 22)) (.cells (v8 seed) 24)) = w1 at r0 r1 b1 ⊢
    go_wp2_with (go_at_call 21; (with_reducible refine Calls.mono (hK _ (hL.below b1)) ?_); rintro e w2 ⟨rfl, hb2⟩)
    go_ret
    exact ⟨rfl, b1.trans (hb2.mono b1.size)⟩
  have hbyb : (by_ == 0) = false := by simpa using hby0
  obtain ⟨q, hqq⟩ : ∃ q : Nat, q0 % 2 = (q : Int) := ⟨(q0 % 2).toNat, by omega⟩
  have hq2 : q < 2 ^ 1 := by have := Int.emod_lt_of_pos q0 (show (0 : Int) < 2 by decide); omega
  have hw2 : ∀ wx, Calls Tryd.prog 24 #[.int .i64 q0, .int .i64 2] wx fun e w' => e = .returned (.int .i64 (q : Int)) ∧ w' = wx := fun wx => by
    have := within6_any q0 2 wx (by omega) (by omega)
    rwa [hqq] at this
  have hP : ∀ wx, Laid wx → Calls Tryd.prog 22 #[.agg (v8 nm), .agg (v8 seed), .int .i64 1] wx fun e w' => ∃ sp cap, e = .returned (.tuple #[.slice sp 56 cap, .int .i64 0]) ∧ Own8 w' wx.heap.size 5 (.slice sp 56 cap) (keyL 1 nm (nodeN S nm seed (2 ^ 1) 1)) ∧ Below wx.heap.size wx w' := fun wx hl => lPublic_any S hS nm seed 1 wx hl hn hs (by omega) (by omega)
  have hSg : ∀ sd wx, sd.length = 32 → Laid wx → Bytes wx mp msg → Calls Tryd.prog 25 #[.agg (v8 nm), .agg (v8 sd), .int .i64 1, .int .i64 (q : Int), .slice mp ml mc] wx fun e w' => ∃ g, e = .returned (.tuple #[.slice (some ⟨g, 0, none⟩) 4332 4332, .int .i64 0]) ∧ wx.heap.size ≤ g ∧ Row w' g 5 (v8 (lsigL S nm sd 1 q msg)) ∧ Below wx.heap.size wx w' := fun sd wx hsd hl hb => lSign_any S hS nm sd msg 1 q mp ml mc wx hl hn hsd hml (by omega) hb (by omega) (by omega) hq2
  have hOc : ∀ l, Oct (S l) := fun l => hS.oct l
  have hKl : (keyL 1 nm (nodeN S nm seed (2 ^ 1) 1)).length = 56 := keyL_len hn (nodeN_len (fun l => hS.len l) _ _ _ _)
  have hKo : Oct (keyL 1 nm (nodeN S nm seed (2 ^ 1) 1)) := oct_key hnr (oct_node hOc _ _ _ _)
  have hSl : ∀ sd, (lsigL S nm sd 1 q msg).length = 4332 := fun sd => lsigL_len (fun l => hS.len l) nm sd 1 q msg
  have hSo : ∀ sd, Oct (lsigL S nm sd 1 q msg) := fun sd => oct_lsig hOc nm sd 1 q msg
  have hown : chkZ S (keyL 1 nm (nodeN S nm seed (2 ^ 1) 1)) msg (lsigL S nm seed 1 q msg) = 0 := chk_own S (fun l => hS.len l) nm seed msg 1 q hn (by omega) (by omega) hq2
  generalize keyL 1 nm (nodeN S nm seed (2 ^ 1) 1) = KEY at *
  generalize hSF : (fun sd => lsigL S nm sd 1 q msg) = SF at *
  have hSF' : ∀ sd, lsigL S nm sd 1 q msg = SF sd := fun sd => congrFun hSF sd
  simp only [hSF'] at hSg hSl hSo hown
  clear hSF hSF' hOc hqq hq2
  have hcZ := fun (m sig : List Int) pp pc mp2 ml2 mc2 sp sc wx (hL : Laid wx) (hpc : 56 ≤ pc) (hp : Bytes wx pp KEY) (h2 : m.length = ml2) (h3 : ml2 ≤ 201) (h4 : Bytes wx mp2 m) (h5 : sig.length = 4332) (h6 : 4332 ≤ sc) (h7 : Bytes wx sp sig) (h8 : Oct sig) => chk_any S hS KEY m sig pp mp2 sp 56 pc ml2 mc2 4332 sc wx hL hKl hpc hp hKo h2 (by omega) h4 h5 h6 h7 h8
  have hcR := fun (m sig : List Int) pp pc mp2 ml2 mc2 sp sc wx (hpc : 56 ≤ pc) (hp : Bytes wx pp KEY) (h2 : m.length = ml2) (h3 : ml2 ≤ 201) (h4 : Bytes wx mp2 m) (h9 : mp2 = none → mc2 = 0 ∧ ml2 = 0) (h5 : sig.length = 4332) (h6 : 4332 ≤ sc) (h7 : Bytes wx sp sig) (h8 : Oct sig) => six_chk_any S hS KEY m sig pp mp2 sp 56 pc ml2 mc2 4332 sc wx hKl hpc hp hKo h2 (by omega) h4 h9 h5 h6 h7 h8
  generalize chkZ S KEY = Z at *
  have hMM : Hid (msg.length = ml ∧ (mp = none → mc = 0 ∧ ml = 0) ∧ Bytes w0 mp msg) := ⟨hml, hmn, hmb⟩
  clear hml hmn hmb
  go_enter Tryd.func11, Tryd.ntmps11
  go_upto_region 1 with fail
  change Code.wp _ _ _ _ ((World.alloc (World.alloc w0 (.cells (v8 nm) 22)) (.cells (v8 seed) 24)))
  obtain ⟨ga, hga⟩ : ∃ ga, w0.heap.size = ga := ⟨_, rfl⟩
  obtain ⟨gb, hgb⟩ : ∃ gb, ga + 1 = gb := ⟨_, rfl⟩
  generalize (World.alloc (World.alloc w0 (.cells (v8 nm) 22)) (.cells (v8 seed) 24)) = w1 at r0 r1 b1 ⊢
  rw [hga] at r0
  rw [hga, hgb] at r1
  simp only [hga, hgb]
  go_upto_region 6 with (first | (go_at_call 21; (with_reducible refine Calls.mono (hK _ (hL.below b1)) ?_); rintro e w2 ⟨rfl, hb2⟩) | (go_at_call 24; (with_reducible refine Calls.mono (hw2 _) ?_); rintro e wy ⟨rfl, hw⟩; obtain rfl := hw.symm; clear hw))
  have p0 := r0.below hb2 r0.lt
  have p1 := r1.below hb2 r1.lt
  have pb := b1.trans (hb2.mono b1.size)
  clear r0 r1 b1 hb2 hK hw2
  have hab : ga < gb := by omega
  have hgaw : w0.heap.size ≤ ga := by omega
  go_upto_region 7 with (first | (refine wpList_load_row (by rfl) 22 (.tmp 5) (by rfl) ga (by rfl) 22 (v8 nm) (0, 0) _ p0 Tryd.underlying22 rfl (name_info hn) ?_) | (refine wpList_load_row (by rfl) 24 (.tmp 6) (by rfl) gb (by rfl) 24 (v8 seed) (0, 0) _ p1 Tryd.underlying24 rfl (id_info hs) ?_) | (go_at_call 22; (with_reducible refine Calls.mono (hP _ (hL.below pb)) ?_); rintro e w3 ⟨spP, cpP, rfl, oP, hb3⟩))
  have q0' := p0.below hb3 p0.lt
  have q1' := p1.below hb3 p1.lt
  have qb := pb.trans (hb3.mono pb.size)
  have hgb2 := p1.lt
  have oP := oP.mono (show gb + 1 ≤ w2.heap.size by omega)
  clear p0 p1 pb hb3 hP
  obtain ⟨hml, hmn, hmb⟩ := hMM
  have hmn' : Hid (mp = none → mc = 0 ∧ ml = 0) := hmn
  clear hmn
  have hmb3 := hmb.below qb
  go_upto_region 8 with (first | (refine wpList_load_row (by rfl) 22 (.tmp 5) (by rfl) ga (by rfl) 22 (v8 nm) (0, 0) _ q0' Tryd.underlying22 rfl (name_info hn) ?_) | (refine wpList_load_row (by rfl) 24 (.tmp 6) (by rfl) gb (by rfl) 24 (v8 seed) (0, 0) _ q1' Tryd.underlying24 rfl (id_info hs) ?_) | (go_at_call 25; (with_reducible refine Calls.mono (hSg seed _ hs (hL.below qb) hmb3) ?_); rintro e w4 ⟨gs, rfl, hgs, rS, hb4⟩))
  have p0 := q0'.below hb4 q0'.lt
  have p1 := q1'.below hb4 q1'.lt
  have pb := qb.trans (hb4.mono qb.size)
  have oP4 := oP.below hb4 (Nat.le_refl _)
  have hmb4 := hmb.below pb
  have hgsb : gb < gs := by have := q1'.lt; omega
  clear q0' q1' qb hb4 oP hmb3
  have o0 : Own8 (w4.alloc (.cells #[] 5)) w4.heap.size 5 (.slice (some ⟨w4.heap.size, 0, none⟩) 0 0) [] := own8_lit w4 _ (Nat.le_refl _)
  have b0 : Below w4.heap.size w4 (w4.alloc (.cells #[] 5)) := (Below.refl _ _).alloc (Nat.le_refl _) _
  have hmb0 := hmb4.below b0
  have hXl : (msg ++ [by_]).length = ml + 1 := by simp [hml]
  go_upto_region 9 with (first | (at_builtin; (refine append8g (.tmp 43) (.tmp 44) 28 5 (by rfl) (by rfl) w4.heap.size Tryd.underlying28 info5 (.slice (some ⟨w4.heap.size, 0, none⟩) 0 0) [] (by rfl) ?ho mp ml mc msg (by rfl) hml ?hnil ?hby ?hlen ?hB ?_; (case ho => exact o0); (case hnil => exact hmn'); (case hby => exact hmb0); (case hlen => simp; omega); (case hB => exact b0.size); rw [List.nil_append, hml]; intro sp1 cap1 w5 o1 b5 g5; have o1a := o1.alloc (.cells (v8 [by_]) 5); have b5a := (b0.trans b5).alloc (by have := (b0.trans b5).size; omega) (.cells (v8 [by_]) 5))) | (at_builtin; (refine append8g (.tmp 45) (.tmp 47) 28 5 (by rfl) (by rfl) w4.heap.size Tryd.underlying28 info5 (.slice sp1 ml cap1) msg (by rfl) ?ho2 (some ⟨w5.heap.size, 0, none⟩) 1 1 [by_] (by rfl) rfl ?hnil2 ?hby2 ?hlen2 ?hB2 ?_; (case ho2 => exact o1a); (case hnil2 => exact (fun h => by cases h)); (case hby2 => exact bytes_lit w5 [by_]); (case hlen2 => omega); (case hB2 => exact b5a.size); rw [hXl]; intro spX cpX w6 oX b6 g6)))
  have bX := b5a.trans b6
  have p0' := p0.below bX p0.lt
  have p1' := p1.below bX p1.lt
  have pb' := pb.trans (bX.mono pb.size)
  have oP6 := oP4.below bX (Nat.le_refl _)
  have rS6 := rS.below bX rS.lt
  have hmb6 := hmb4.below bX
  have oX := oX.mono (show gs + 1 ≤ w4.heap.size from rS.lt)
  clear p0 p1 pb oP4 rS hmb4 o0 b0 hmb0 o1 o1a b5a b5 b6 g5 g6 bX
  have c7 := p1'.cell8 (j := 7) (by omega)
  have f7 := p1'.frozen (j := 7)
  go_upto_region 10 with fail
  obtain ⟨vx, hvx⟩ : ∃ vx, bits BinOp.xor IntKind.u8 (gi seed 7) by_ = vx := ⟨_, rfl⟩
  rw [hvx]
  clear hvx
  have q0 := p0'.setOther (a := ⟨gb, 7, none⟩) (by simp only; omega) (.int .u8 vx)
  have q1 := p1'.set8 7 vx
  have qb := pb'.setCell (p := ⟨gb, 7, none⟩) (by simp only; omega) (.int .u8 vx)
  have oP7 := oP6.setLow (p := ⟨gb, 7, none⟩) (by simp only; omega) (.int .u8 vx)
  have oX7 := oX.setLow (p := ⟨gb, 7, none⟩) (by simp only; omega) (.int .u8 vx)
  have rS7 := rS6.setOther (a := ⟨gb, 7, none⟩) (by simp only; omega) (.int .u8 vx)
  have hs2 : (seed.set 7 vx).length = 32 := by simpa using hs
  change Code.wp _ _ _ _ (w6.setCell ⟨gb, 7, none⟩ (.int .u8 vx))
  generalize w6.setCell ⟨gb, 7, none⟩ (.int .u8 vx) = w7 at *
  have hmb7 := hmb.below qb
  clear p0' p1' pb' oP6 oX rS6 c7 f7 hmb6
  have hSl2 := hSl (seed.set 7 vx)
  have hSo2 := hSo (seed.set 7 vx)
  have hSl1 := hSl seed
  have hSo1 := hSo seed
  have hSg2 := fun wx hl hb => hSg (seed.set 7 vx) wx hs2 hl hb
  generalize SF (seed.set 7 vx) = SIG2 at *
  generalize SF seed = SIG at *
  generalize seed.set 7 vx = sd2 at *
  go_upto_region 11 with (first | (refine wpList_load_row (by rfl) 22 (.tmp 5) (by rfl) ga (by rfl) 22 (v8 nm) (0, 0) _ q0 Tryd.underlying22 rfl (name_info hn) ?_) | (refine wpList_load_row (by rfl) 24 (.tmp 6) (by rfl) gb (by rfl) 24 (v8 sd2) (0, 0) _ q1 Tryd.underlying24 rfl (id_info hs2) ?_) | (go_at_call 25; (with_reducible refine Calls.mono (hSg2 _ (hL.below qb) hmb7) ?_); rintro e w8 ⟨gt, rfl, hgt, rT, hb8⟩))
  have pb := qb.trans (hb8.mono qb.size)
  have oP8 := oP7.below hb8 (Nat.le_refl _)
  have oX8 := oX7.below hb8 (Nat.le_refl _)
  have rS8 := rS7.below hb8 rS7.lt
  have hmb8 := hmb.below pb
  have hcP := own8_cap oP8
  have hcX := own8_cap oX8
  have hmn := hmn'
  unfold Hid at hmn
  have hm1 : ml ≤ 201 := by omega
  have hm2 : ml + 1 ≤ 201 := by omega
  have f1 : ∀ wx, Below w8.heap.size w8 wx → Calls Tryd.prog 27 #[.slice spP 56 cpP, .slice mp ml mc, .slice (some ⟨gs, 0, none⟩) 4332 4332] wx fun e w' => e = .returned (.int .i64 0) ∧ Below wx.heap.size wx w' := fun wx hb => by
    have := hcZ msg SIG spP cpP mp ml mc (some ⟨gs, 0, none⟩) 4332 wx (hL.below (pb.trans (hb.mono pb.size))) hcP (oP8.below hb (Nat.le_refl _)).bytes hml hm1 (hmb8.below hb) hSl1 (Nat.le_refl _) (rS8.below hb rS8.lt).bytes hSo1
    rwa [hown] at this
  have f2 : ∀ wx, Below w8.heap.size w8 wx → Calls Tryd.prog 27 #[.slice spP 56 cpP, .slice spX (ml + 1) cpX, .slice (some ⟨gs, 0, none⟩) 4332 4332] wx fun e w' => e = .returned (.int .i64 (Z (msg ++ [by_]) SIG)) ∧ Below wx.heap.size wx w' := fun wx hb => hcZ (msg ++ [by_]) SIG spP cpP spX (ml + 1) cpX (some ⟨gs, 0, none⟩) 4332 wx (hL.below (pb.trans (hb.mono pb.size))) hcP (oP8.below hb (Nat.le_refl _)).bytes hXl hm2 (oX8.below hb (Nat.le_refl _)).bytes hSl1 (Nat.le_refl _) (rS8.below hb rS8.lt).bytes hSo1
  have f3 : ∀ wx, Below w8.heap.size w8 wx → Calls Tryd.prog 28 #[.slice spP 56 cpP, .slice spX (ml + 1) cpX, .slice (some ⟨gs, 0, none⟩) 4332 4332] wx fun e w' => e = .returned (.int .i64 (Z (msg ++ [by_]) SIG)) ∧ Below wx.heap.size wx w' := fun wx hb => hcR (msg ++ [by_]) SIG spP cpP spX (ml + 1) cpX (some ⟨gs, 0, none⟩) 4332 wx hcP (oP8.below hb (Nat.le_refl _)).bytes hXl hm2 (oX8.below hb (Nat.le_refl _)).bytes (own_nil0 oX8) hSl1 (Nat.le_refl _) (rS8.below hb rS8.lt).bytes hSo1
  have f4 : ∀ wx, Below w8.heap.size w8 wx → Calls Tryd.prog 27 #[.slice spP 56 cpP, .slice mp ml mc, .slice (some ⟨gt, 0, none⟩) 4332 4332] wx fun e w' => e = .returned (.int .i64 (Z msg SIG2)) ∧ Below wx.heap.size wx w' := fun wx hb => hcZ msg SIG2 spP cpP mp ml mc (some ⟨gt, 0, none⟩) 4332 wx (hL.below (pb.trans (hb.mono pb.size))) hcP (oP8.below hb (Nat.le_refl _)).bytes hml hm1 (hmb8.below hb) hSl2 (Nat.le_refl _) (rT.below hb rT.lt).bytes hSo2
  have f5 : ∀ wx, Below w8.heap.size w8 wx → Calls Tryd.prog 28 #[.slice spP 56 cpP, .slice mp ml mc, .slice (some ⟨gt, 0, none⟩) 4332 4332] wx fun e w' => e = .returned (.int .i64 (Z msg SIG2)) ∧ Below wx.heap.size wx w' := fun wx hb => hcR msg SIG2 spP cpP mp ml mc (some ⟨gt, 0, none⟩) 4332 wx hcP (oP8.below hb (Nat.le_refl _)).bytes hml hm1 (hmb8.below hb) hmn hSl2 (Nat.le_refl _) (rT.below hb rT.lt).bytes hSo2
  generalize Z (msg ++ [by_]) SIG = z1 at *
  generalize Z msg SIG2 = z2 at *
  have hB := Below.refl w8.heap.size w8
  have hgne : gs ≠ gt := by have := rS7.lt; omega
  clear hcZ hcR hSg hSg2 hSl hSo hSl1 hSl2 hSo1 hSo2 hmn hmn' hml hXl hm1 hm2 q0 q1 oP7 oX7 rS7 hb8 hmb7 hmb8 hown oP8 oX8 rS8 rT
  go_wp2_with (first | (go_at_call 27; (with_reducible refine Calls.mono (f1 _ hB) ?_); rintro e wa ⟨rfl, hba⟩; replace hB := hB.trans (hba.mono hB.size)) | (go_at_call 27; (with_reducible refine Calls.mono (f2 _ hB) ?_); rintro e wa ⟨rfl, hba⟩; replace hB := hB.trans (hba.mono hB.size)) | (go_at_call 28; (with_reducible refine Calls.mono (f3 _ hB) ?_); rintro e wa ⟨rfl, hba⟩; replace hB := hB.trans (hba.mono hB.size)) | (go_at_call 27; (with_reducible refine Calls.mono (f4 _ hB) ?_); rintro e wa ⟨rfl, hba⟩; replace hB := hB.trans (hba.mono hB.size)) | (go_at_call 28; (with_reducible refine Calls.mono (f5 _ hB) ?_); rintro e wa ⟨rfl, hba⟩; replace hB := hB.trans (hba.mono hB.size)))
  go_ret
  exact ⟨rfl, pb.trans (hB.mono pb.size)⟩
end Go.Proofs.YtoebnkepeledmaaDoor
