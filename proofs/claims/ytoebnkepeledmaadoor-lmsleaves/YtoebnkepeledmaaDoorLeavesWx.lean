/- LmsLeaves returns true and turns no old memory. -/
import Derived.Test.YtoebnkepeledmaaDoorOthersWx
import Derived.Test.YtoebnkepeledmaaDoorSixTx
namespace Go.Proofs.YtoebnkepeledmaaDoor
open Go Go.RowKit

theorem xor_byte1 : ∀ b : Fin 256, 0 ≤ bits .xor .u8 (b.val : Int) 1 ∧ bits .xor .u8 (b.val : Int) 1 < 256 := by decide +kernel
theorem gi_oct {l : List Int} (h : Oct l) (k : Nat) (hk : k < l.length) : 0 ≤ gi l k ∧ gi l k < 256 := by
  have : gi l k = l[k] := by simp [gi, hk]
  rw [this]; exact h _ (List.getElem_mem hk)
theorem own8_setOther {w : World} {B : Nat} {e : TypeId} {v : Value} {l : List Int} (h : Own8 w B e v l) (p : Addr) (u : Value) (hne : ∀ k, v.ownBlock = some k → k ≠ p.block) : Own8 (w.setCell p u) B e v l := by
  obtain ⟨hl, h⟩ := h
  refine ⟨hl, ?_⟩
  rcases h with h | ⟨g, cap', cur, hv, hg, hh, r⟩
  · exact .inl h
  · exact .inr ⟨g, cap', cur, hv, hg, Row.setOther (t := e) (vs := cur) hh (hne g (by rw [hv]; rfl)) u, r⟩
theorem own8_blk {w : World} {B : Nat} {e : TypeId} {v : Value} {l : List Int} (h : Own8 w B e v l) {k : Nat} (hk : v.ownBlock = some k) : k < w.heap.size := by
  obtain ⟨_, h⟩ := h
  rcases h with ⟨rfl, _⟩ | ⟨g, cap', cur, hv, hg, hh, r⟩
  · cases hk
  · rw [hv] at hk; cases hk; exact Row.lt (t := e) (vs := cur) hh
set_option maxRecDepth 20000 in
set_option maxHeartbeats 4000000 in
theorem leaves_1 (S : List Int → List Int) (hS : Hash S) (nm seed msg : List Int) (h0 : Int) (mp : Option Addr) (ml mc : Nat) (w0 : World) (hL : Laid w0) (hn : nm.length = 16) (hs : seed.length = 32) (hnr : Oct nm) (hml : msg.length = ml) (hmn : mp = none → mc = 0 ∧ ml = 0) (hmb : Bytes w0 mp msg) (hh : h0 % 2 = 0) :
    Calls Tryd.prog 12 #[.agg (v8 nm), .agg (v8 seed), .int .i64 h0, .slice mp ml mc] w0 fun e w' => e = .returned (.bool true) ∧ Below w0.heap.size w0 w' := by
  have hK : ∀ wx, Laid wx → Calls Tryd.prog 21 #[] wx fun e w' => e = .returned (.bool true) ∧ Below wx.heap.size wx w' := fun wx hl => known6_any S hS wx hl
  have r0 : Row (World.alloc (World.alloc w0 (.cells (v8 nm) 22)) (.cells (v8 seed) 24)) w0.heap.size 22 (v8 nm) := (Row.new _ _ _).alloc _
  have r1 : Row (World.alloc (World.alloc w0 (.cells (v8 nm) 22)) (.cells (v8 seed) 24)) (w0.heap.size + 1) 24 (v8 seed) := Row.newAt _ _ _ _ (by simp)
  have b1 : Below w0.heap.size w0 (World.alloc (World.alloc w0 (.cells (v8 nm) 22)) (.cells (v8 seed) 24)) := ((Below.refl _ _).alloc (Nat.le_refl _) _).alloc (by simp) _
  by_cases h200 : ml > 50
  · have h200i : (50 : Int) < ml := by omega
    clear hml hmn hmb
    go_enter Tryd.func12, Tryd.ntmps12
    go_upto_region 1 with fail
    change Code.wp _ _ _ _ (World.alloc (World.alloc w0 (.cells (v8 nm) 22)) (.cells (v8 seed) 24))
    generalize (World.alloc (World.alloc w0 (.cells (v8 nm) 22)) (.cells (v8 seed) 24)) = w1 at r0 r1 b1 ⊢
    go_wp2_with (go_at_call 21; (with_reducible refine Calls.mono (hK _ (hL.below b1)) ?_); rintro e w2 ⟨rfl, hb2⟩)
    go_ret
    exact ⟨rfl, b1.trans (hb2.mono b1.size)⟩
  have h200i : (ml : Int) ≤ 50 := by omega
  have hw2 : ∀ wx, Calls Tryd.prog 24 #[.int .i64 h0, .int .i64 2] wx fun e w' => e = .returned (.int .i64 0) ∧ w' = wx := fun wx => by
    have := within6_any h0 2 wx (by omega) (by omega)
    rwa [hh] at this
  have hP : ∀ wx, Laid wx → Calls Tryd.prog 22 #[.agg (v8 nm), .agg (v8 seed), .int .i64 1] wx fun e w' => ∃ sp cap, e = .returned (.tuple #[.slice sp 56 cap, .int .i64 0]) ∧ Own8 w' wx.heap.size 5 (.slice sp 56 cap) (keyL 1 nm (nodeN S nm seed (2 ^ 1) 1)) ∧ Below wx.heap.size wx w' := fun wx hl => lPublic_any S hS nm seed 1 wx hl hn hs (by omega) (by omega)
  have hSg : ∀ (q : Nat) wx, q < 2 → Laid wx → Bytes wx mp msg → Calls Tryd.prog 25 #[.agg (v8 nm), .agg (v8 seed), .int .i64 1, .int .i64 (q : Int), .slice mp ml mc] wx fun e w' => ∃ g, e = .returned (.tuple #[.slice (some ⟨g, 0, none⟩) 4332 4332, .int .i64 0]) ∧ wx.heap.size ≤ g ∧ Row w' g 5 (v8 (lsigL S nm seed 1 q msg)) ∧ Below wx.heap.size wx w' := fun q wx hq hl hb => lSign_any S hS nm seed msg 1 q mp ml mc wx hl hn hs hml (by omega) hb (by omega) (by omega) hq
  have hSb : ∀ wx, Calls Tryd.prog 25 #[.agg (v8 nm), .agg (v8 seed), .int .i64 1, .int .i64 2, .slice mp ml mc] wx fun e w' => e = .returned (.tuple #[.slice none 0 0, .int .i64 13]) ∧ Below wx.heap.size wx w' := fun wx => lSign_bad1 nm seed 2 mp ml mc wx (by omega)
  have hOc : ∀ l, Oct (S l) := fun l => hS.oct l
  have hKl : (keyL 1 nm (nodeN S nm seed (2 ^ 1) 1)).length = 56 := keyL_len hn (nodeN_len (fun l => hS.len l) _ _ _ _)
  have hKo : Oct (keyL 1 nm (nodeN S nm seed (2 ^ 1) 1)) := oct_key hnr (oct_node hOc _ _ _ _)
  have hSl : ∀ q, (lsigL S nm seed 1 q msg).length = 4332 := fun q => lsigL_len (fun l => hS.len l) nm seed 1 q msg
  have hSo : ∀ q, Oct (lsigL S nm seed 1 q msg) := fun q => oct_lsig hOc nm seed 1 q msg
  have hown : ∀ q, q < 2 → chkZ S (keyL 1 nm (nodeN S nm seed (2 ^ 1) 1)) msg (lsigL S nm seed 1 q msg) = 0 := fun q hq => chk_own S (fun l => hS.len l) nm seed msg 1 q hn (by omega) (by omega) hq
  generalize keyL 1 nm (nodeN S nm seed (2 ^ 1) 1) = KEY at *
  generalize hSF : (fun q => lsigL S nm seed 1 q msg) = SF at *
  have hSF' : ∀ q, lsigL S nm seed 1 q msg = SF q := fun q => congrFun hSF q
  simp only [hSF'] at hSg hSl hSo hown
  clear hSF hSF' hOc hh
  have hcZ := fun (sig : List Int) pp pc sp sc wx (hL : Laid wx) (hpc : 56 ≤ pc) (hp : Bytes wx pp KEY) (h4 : Bytes wx mp msg) (h5 : sig.length = 4332) (h6 : 4332 ≤ sc) (h7 : Bytes wx sp sig) (h8 : Oct sig) => chk_any S hS KEY msg sig pp mp sp 56 pc ml mc 4332 sc wx hL hKl hpc hp hKo hml (by omega) h4 h5 h6 h7 h8
  have hcR := fun (sig : List Int) pp pc sp sc wx (hpc : 56 ≤ pc) (hp : Bytes wx pp KEY) (h4 : Bytes wx mp msg) (h5 : sig.length = 4332) (h6 : 4332 ≤ sc) (h7 : Bytes wx sp sig) (h8 : Oct sig) => six_chk_any S hS KEY msg sig pp mp sp 56 pc ml mc 4332 sc wx hKl hpc hp hKo hml (by omega) h4 hmn h5 h6 h7 h8
  generalize chkZ S KEY msg = Z at *
  clear hml hmn
  go_enter Tryd.func12, Tryd.ntmps12
  go_upto_region 1 with fail
  change Code.wp _ _ _ _ (World.alloc (World.alloc w0 (.cells (v8 nm) 22)) (.cells (v8 seed) 24))
  obtain ⟨ga, hga⟩ : ∃ ga, w0.heap.size = ga := ⟨_, rfl⟩
  obtain ⟨gb, hgb⟩ : ∃ gb, ga + 1 = gb := ⟨_, rfl⟩
  generalize (World.alloc (World.alloc w0 (.cells (v8 nm) 22)) (.cells (v8 seed) 24)) = w1 at r0 r1 b1 ⊢
  rw [hga] at r0
  rw [hga, hgb] at r1
  simp only [hga, hgb]
  go_upto_region 6 with (first | (go_at_call 21; (with_reducible refine Calls.mono (hK _ (hL.below b1)) ?_); rintro e w2 ⟨rfl, hb2⟩) | (go_at_call 24; (with_reducible refine Calls.mono (hw2 _) ?_); rintro e wy ⟨rfl, hw⟩; obtain rfl := hw.symm; clear hw))
  have p0 := r0.below hb2 r0.lt
  have p1 := r1.below hb2 r1.lt
  have pb := b1.trans (hb2.mono b1.size)
  clear r0 r1 b1 hb2 hK hw2
  have hab : ga < gb := by omega
  have hgaw : w0.heap.size ≤ ga := by omega
  go_upto_region 7 with (first | (refine wpList_load_row (by rfl) 22 (.tmp 4) (by rfl) ga (by rfl) 22 (v8 nm) (0, 0) _ p0 Tryd.underlying22 rfl (name_info hn) ?_) | (refine wpList_load_row (by rfl) 24 (.tmp 5) (by rfl) gb (by rfl) 24 (v8 seed) (0, 0) _ p1 Tryd.underlying24 rfl (id_info hs) ?_) | (go_at_call 22; (with_reducible refine Calls.mono (hP _ (hL.below pb)) ?_); rintro e w3 ⟨spP, cpP, rfl, oP, hb3⟩))
  have q0 := p0.below hb3 p0.lt
  have q1 := p1.below hb3 p1.lt
  have qb := pb.trans (hb3.mono pb.size)
  have hgb2 := p1.lt
  have oP := oP.mono (show gb + 1 ≤ w2.heap.size by omega)
  have hcP := own8_cap oP
  clear p0 p1 pb hb3 hP hga hgb hgb2
  go_wp2
  go_loopw [11] (fun qv wr => ∃ q : Nat, qv = .int .i64 (q : Int) ∧ q ≤ 2 ∧ Row wr ga 22 (v8 nm) ∧ Row wr gb 24 (v8 seed) ∧ Own8 wr (gb + 1) 5 (.slice spP 56 cpP) KEY ∧ Below w0.heap.size w0 wr) (fun qv _ => 2 - (intOf qv).toNat)
  case atStart => exact ⟨0, rfl, by omega, q0, q1, oP, qb⟩
  case round =>
    clear q0 q1 oP qb
    obtain ⟨q, rfl, hq, z0, z1, oz, zb⟩ := hrel
    have hqi : (q : Int) ≤ 2 := by omega
    by_cases hqn : q = 2
    · subst hqn
      clear hSg hSl hSo hown hcZ hcR
      go_wp2_with (first | (refine wpList_load_row (by rfl) 22 (.tmp 4) (by rfl) ga (by rfl) 22 (v8 nm) (0, 0) _ z0 Tryd.underlying22 rfl (name_info hn) ?_) | (refine wpList_load_row (by rfl) 24 (.tmp 5) (by rfl) gb (by rfl) 24 (v8 seed) (0, 0) _ z1 Tryd.underlying24 rfl (id_info hs) ?_) | (go_at_call 25; (with_reducible refine Calls.mono (hSb _) ?_); rintro e w4 ⟨rfl, hb4⟩))
      go_ret
      exact ⟨rfl, zb.trans (hb4.mono zb.size)⟩
    · have hql : q < 2 := by omega
      have hqb : ((q : Int) == 2) = false := by simp; omega
      have hmb1 := hmb.below zb
      have hSq := fun wx => hSg q wx hql
      have hSlq := hSl q
      have hSoq := hSo q
      have hoq := hown q hql
      clear hSg hSl hSo hown hSb
      generalize SF q = SIG at *
      go_upto_region 13 with (first | (refine wpList_load_row (by rfl) 22 (.tmp 4) (by rfl) ga (by rfl) 22 (v8 nm) (0, 0) _ z0 Tryd.underlying22 rfl (name_info hn) ?_) | (refine wpList_load_row (by rfl) 24 (.tmp 5) (by rfl) gb (by rfl) 24 (v8 seed) (0, 0) _ z1 Tryd.underlying24 rfl (id_info hs) ?_) | (go_at_call 25; (with_reducible refine Calls.mono (hSq _ (hL.below zb) hmb1) ?_); rintro e w4 ⟨gs, rfl, hgs, rS, hb4⟩))
      have hzl := z1.lt
      have p0 := z0.below hb4 z0.lt
      have p1 := z1.below hb4 z1.lt
      have pb := zb.trans (hb4.mono zb.size)
      have oP4 := oz.below hb4 (Nat.le_refl _)
      have hmb4 := hmb.below pb
      have hgsb : gb < gs := by omega
      have hbk : ∀ k, (Value.slice spP 56 cpP).ownBlock = some k → k < gs := fun k hk => by have := own8_blk oz hk; omega
      have f1 : Calls Tryd.prog 27 #[.slice spP 56 cpP, .slice mp ml mc, .slice (some ⟨gs, 0, none⟩) 4332 4332] w4 fun e w' => e = .returned (.int .i64 0) ∧ Below w4.heap.size w4 w' := by
        have := hcZ SIG spP cpP (some ⟨gs, 0, none⟩) 4332 w4 (hL.below pb) hcP oP4.bytes hmb4 hSlq (Nat.le_refl _) rS.bytes hSoq
        rwa [hoq] at this
      clear z0 z1 oz zb hb4 hSq hmb1 hzl hoq hmb4
      go_upto_region 17 with (go_at_call 27; (with_reducible refine Calls.mono f1 ?_); rintro e w5 ⟨rfl, hb5⟩)
      have p0' := p0.below hb5 p0.lt
      have p1' := p1.below hb5 p1.lt
      have pb' := pb.trans (hb5.mono pb.size)
      have oP5 := oP4.below hb5 (Nat.le_refl _)
      have rS5 := rS.below hb5 rS.lt
      clear p0 p1 pb oP4 rS hb5 f1
      have c3 := rS5.cell8 (j := 3) (by omega)
      have f3 := rS5.frozen (j := 3)
      have hg3 := gi_oct hSoq 3 (by omega)
      obtain ⟨vx, hvx⟩ : ∃ vx, bits BinOp.xor IntKind.u8 (gi SIG 3) 1 = vx := ⟨_, rfl⟩
      have hvr : 0 ≤ vx ∧ vx < 256 := by
        rw [← hvx]
        have := xor_byte1 ⟨(gi SIG 3).toNat, by omega⟩
        simp only [Int.toNat_of_nonneg hg3.1] at this
        exact this
      go_upto_region 18 with fail

      clear hvx
      have y0 := p0'.setOther (a := ⟨gs, 3, none⟩) (by simp only; omega) (.int .u8 vx)
      have y1 := p1'.setOther (a := ⟨gs, 3, none⟩) (by simp only; omega) (.int .u8 vx)
      have yS := rS5.set8 3 vx
      have yb := pb'.setCell (p := ⟨gs, 3, none⟩) (by simp only; omega) (.int .u8 vx)
      have hgP : ∀ k, (Value.slice spP 56 cpP).ownBlock = some k → k ≠ gs := fun k hk => by have h1 := hbk k hk; show k ≠ gs; omega
      have oP6 := own8_setOther oP5 ⟨gs, 3, none⟩ (.int .u8 vx) hgP
      have hlS : (SIG.set 3 vx).length = 4332 := by simpa using hSlq
      have hoS := oct_set (k := 3) hSoq hvr
      change Code.wp _ _ _ _ (w5.setCell ⟨gs, 3, none⟩ (.int .u8 vx))
      generalize w5.setCell ⟨gs, 3, none⟩ (.int .u8 vx) = w6 at *
      generalize SIG.set 3 vx = SIG2 at *
      have hmb6 := hmb.below yb
      have f27 := hcZ SIG2 spP cpP (some ⟨gs, 0, none⟩) 4332 w6 (hL.below yb) hcP oP6.bytes hmb6 hlS (Nat.le_refl _) yS.bytes hoS
      have f28 := fun wx (hb : Below w6.heap.size w6 wx) => hcR SIG2 spP cpP (some ⟨gs, 0, none⟩) 4332 wx hcP (oP6.below hb (Nat.le_refl _)).bytes (hmb6.below hb) hlS (Nat.le_refl _) (yS.below hb yS.lt).bytes hoS
      generalize Z SIG2 = z2 at *
      clear p0' p1' pb' oP5 rS5 c3 f3 hcZ hcR hSlq hSoq hlS hoS
      go_wp2_with (first | (go_at_call 27; (with_reducible refine Calls.mono f27 ?_); rintro e w7 ⟨rfl, hb7⟩) | (go_at_call 28; (with_reducible refine Calls.mono (f28 _ hb7) ?_); rintro e w8 ⟨rfl, hb8⟩))
      have b78 := hb7.trans (hb8.mono hb7.size)
      go_roundw
      case rel => exact ⟨q + 1, by go_num, by omega, y0.below b78 y0.lt, y1.below b78 y1.lt, oP6.below b78 (Nat.le_refl _), yb.trans (b78.mono yb.size)⟩
      case measure => simp [intOf]; omega
set_option maxRecDepth 20000 in
set_option maxHeartbeats 4000000 in
theorem leaves_2 (S : List Int → List Int) (hS : Hash S) (nm seed msg : List Int) (h0 : Int) (mp : Option Addr) (ml mc : Nat) (w0 : World) (hL : Laid w0) (hn : nm.length = 16) (hs : seed.length = 32) (hnr : Oct nm) (hml : msg.length = ml) (hmn : mp = none → mc = 0 ∧ ml = 0) (hmb : Bytes w0 mp msg) (hh : h0 % 2 = 1) :
    Calls Tryd.prog 12 #[.agg (v8 nm), .agg (v8 seed), .int .i64 h0, .slice mp ml mc] w0 fun e w' => e = .returned (.bool true) ∧ Below w0.heap.size w0 w' := by
  have hK : ∀ wx, Laid wx → Calls Tryd.prog 21 #[] wx fun e w' => e = .returned (.bool true) ∧ Below wx.heap.size wx w' := fun wx hl => known6_any S hS wx hl
  have r0 : Row (World.alloc (World.alloc w0 (.cells (v8 nm) 22)) (.cells (v8 seed) 24)) w0.heap.size 22 (v8 nm) := (Row.new _ _ _).alloc _
  have r1 : Row (World.alloc (World.alloc w0 (.cells (v8 nm) 22)) (.cells (v8 seed) 24)) (w0.heap.size + 1) 24 (v8 seed) := Row.newAt _ _ _ _ (by simp)
  have b1 : Below w0.heap.size w0 (World.alloc (World.alloc w0 (.cells (v8 nm) 22)) (.cells (v8 seed) 24)) := ((Below.refl _ _).alloc (Nat.le_refl _) _).alloc (by simp) _
  by_cases h200 : ml > 50
  · have h200i : (50 : Int) < ml := by omega
    clear hml hmn hmb
    go_enter Tryd.func12, Tryd.ntmps12
    go_upto_region 1 with fail
    change Code.wp _ _ _ _ (World.alloc (World.alloc w0 (.cells (v8 nm) 22)) (.cells (v8 seed) 24))
    generalize (World.alloc (World.alloc w0 (.cells (v8 nm) 22)) (.cells (v8 seed) 24)) = w1 at r0 r1 b1 ⊢
    go_wp2_with (go_at_call 21; (with_reducible refine Calls.mono (hK _ (hL.below b1)) ?_); rintro e w2 ⟨rfl, hb2⟩)
    go_ret
    exact ⟨rfl, b1.trans (hb2.mono b1.size)⟩
  have h200i : (ml : Int) ≤ 50 := by omega
  have hw2 : ∀ wx, Calls Tryd.prog 24 #[.int .i64 h0, .int .i64 2] wx fun e w' => e = .returned (.int .i64 1) ∧ w' = wx := fun wx => by
    have := within6_any h0 2 wx (by omega) (by omega)
    rwa [hh] at this
  have hP : ∀ wx, Laid wx → Calls Tryd.prog 22 #[.agg (v8 nm), .agg (v8 seed), .int .i64 2] wx fun e w' => ∃ sp cap, e = .returned (.tuple #[.slice sp 56 cap, .int .i64 0]) ∧ Own8 w' wx.heap.size 5 (.slice sp 56 cap) (keyL 2 nm (nodeN S nm seed (2 ^ 2) 1)) ∧ Below wx.heap.size wx w' := fun wx hl => lPublic_any S hS nm seed 2 wx hl hn hs (by omega) (by omega)
  have hSg : ∀ (q : Nat) wx, q < 4 → Laid wx → Bytes wx mp msg → Calls Tryd.prog 25 #[.agg (v8 nm), .agg (v8 seed), .int .i64 2, .int .i64 (q : Int), .slice mp ml mc] wx fun e w' => ∃ g, e = .returned (.tuple #[.slice (some ⟨g, 0, none⟩) 4364 4364, .int .i64 0]) ∧ wx.heap.size ≤ g ∧ Row w' g 5 (v8 (lsigL S nm seed 2 q msg)) ∧ Below wx.heap.size wx w' := fun q wx hq hl hb => lSign_any S hS nm seed msg 2 q mp ml mc wx hl hn hs hml (by omega) hb (by omega) (by omega) hq
  have hSb : ∀ wx, Calls Tryd.prog 25 #[.agg (v8 nm), .agg (v8 seed), .int .i64 2, .int .i64 4, .slice mp ml mc] wx fun e w' => e = .returned (.tuple #[.slice none 0 0, .int .i64 13]) ∧ Below wx.heap.size wx w' := fun wx => lSign_bad2 nm seed 4 mp ml mc wx (by omega)
  have hOc : ∀ l, Oct (S l) := fun l => hS.oct l
  have hKl : (keyL 2 nm (nodeN S nm seed (2 ^ 2) 1)).length = 56 := keyL_len hn (nodeN_len (fun l => hS.len l) _ _ _ _)
  have hKo : Oct (keyL 2 nm (nodeN S nm seed (2 ^ 2) 1)) := oct_key hnr (oct_node hOc _ _ _ _)
  have hSl : ∀ q, (lsigL S nm seed 2 q msg).length = 4364 := fun q => lsigL_len (fun l => hS.len l) nm seed 2 q msg
  have hSo : ∀ q, Oct (lsigL S nm seed 2 q msg) := fun q => oct_lsig hOc nm seed 2 q msg
  have hown : ∀ q, q < 4 → chkZ S (keyL 2 nm (nodeN S nm seed (2 ^ 2) 1)) msg (lsigL S nm seed 2 q msg) = 0 := fun q hq => chk_own S (fun l => hS.len l) nm seed msg 2 q hn (by omega) (by omega) hq
  generalize keyL 2 nm (nodeN S nm seed (2 ^ 2) 1) = KEY at *
  generalize hSF : (fun q => lsigL S nm seed 2 q msg) = SF at *
  have hSF' : ∀ q, lsigL S nm seed 2 q msg = SF q := fun q => congrFun hSF q
  simp only [hSF'] at hSg hSl hSo hown
  clear hSF hSF' hOc hh
  have hcZ := fun (sig : List Int) pp pc sp sc wx (hL : Laid wx) (hpc : 56 ≤ pc) (hp : Bytes wx pp KEY) (h4 : Bytes wx mp msg) (h5 : sig.length = 4364) (h6 : 4364 ≤ sc) (h7 : Bytes wx sp sig) (h8 : Oct sig) => chk_any S hS KEY msg sig pp mp sp 56 pc ml mc 4364 sc wx hL hKl hpc hp hKo hml (by omega) h4 h5 h6 h7 h8
  have hcR := fun (sig : List Int) pp pc sp sc wx (hpc : 56 ≤ pc) (hp : Bytes wx pp KEY) (h4 : Bytes wx mp msg) (h5 : sig.length = 4364) (h6 : 4364 ≤ sc) (h7 : Bytes wx sp sig) (h8 : Oct sig) => six_chk_any S hS KEY msg sig pp mp sp 56 pc ml mc 4364 sc wx hKl hpc hp hKo hml (by omega) h4 hmn h5 h6 h7 h8
  generalize chkZ S KEY msg = Z at *
  clear hml hmn
  go_enter Tryd.func12, Tryd.ntmps12
  go_upto_region 1 with fail
  change Code.wp _ _ _ _ (World.alloc (World.alloc w0 (.cells (v8 nm) 22)) (.cells (v8 seed) 24))
  obtain ⟨ga, hga⟩ : ∃ ga, w0.heap.size = ga := ⟨_, rfl⟩
  obtain ⟨gb, hgb⟩ : ∃ gb, ga + 1 = gb := ⟨_, rfl⟩
  generalize (World.alloc (World.alloc w0 (.cells (v8 nm) 22)) (.cells (v8 seed) 24)) = w1 at r0 r1 b1 ⊢
  rw [hga] at r0
  rw [hga, hgb] at r1
  simp only [hga, hgb]
  go_upto_region 6 with (first | (go_at_call 21; (with_reducible refine Calls.mono (hK _ (hL.below b1)) ?_); rintro e w2 ⟨rfl, hb2⟩) | (go_at_call 24; (with_reducible refine Calls.mono (hw2 _) ?_); rintro e wy ⟨rfl, hw⟩; obtain rfl := hw.symm; clear hw))
  have p0 := r0.below hb2 r0.lt
  have p1 := r1.below hb2 r1.lt
  have pb := b1.trans (hb2.mono b1.size)
  clear r0 r1 b1 hb2 hK hw2
  have hab : ga < gb := by omega
  have hgaw : w0.heap.size ≤ ga := by omega
  go_upto_region 7 with (first | (refine wpList_load_row (by rfl) 22 (.tmp 4) (by rfl) ga (by rfl) 22 (v8 nm) (0, 0) _ p0 Tryd.underlying22 rfl (name_info hn) ?_) | (refine wpList_load_row (by rfl) 24 (.tmp 5) (by rfl) gb (by rfl) 24 (v8 seed) (0, 0) _ p1 Tryd.underlying24 rfl (id_info hs) ?_) | (go_at_call 22; (with_reducible refine Calls.mono (hP _ (hL.below pb)) ?_); rintro e w3 ⟨spP, cpP, rfl, oP, hb3⟩))
  have q0 := p0.below hb3 p0.lt
  have q1 := p1.below hb3 p1.lt
  have qb := pb.trans (hb3.mono pb.size)
  have hgb2 := p1.lt
  have oP := oP.mono (show gb + 1 ≤ w2.heap.size by omega)
  have hcP := own8_cap oP
  clear p0 p1 pb hb3 hP hga hgb hgb2
  go_wp2
  go_loopw [11] (fun qv wr => ∃ q : Nat, qv = .int .i64 (q : Int) ∧ q ≤ 4 ∧ Row wr ga 22 (v8 nm) ∧ Row wr gb 24 (v8 seed) ∧ Own8 wr (gb + 1) 5 (.slice spP 56 cpP) KEY ∧ Below w0.heap.size w0 wr) (fun qv _ => 4 - (intOf qv).toNat)
  case atStart => exact ⟨0, rfl, by omega, q0, q1, oP, qb⟩
  case round =>
    clear q0 q1 oP qb
    obtain ⟨q, rfl, hq, z0, z1, oz, zb⟩ := hrel
    have hqi : (q : Int) ≤ 4 := by omega
    by_cases hqn : q = 4
    · subst hqn
      clear hSg hSl hSo hown hcZ hcR
      go_wp2_with (first | (refine wpList_load_row (by rfl) 22 (.tmp 4) (by rfl) ga (by rfl) 22 (v8 nm) (0, 0) _ z0 Tryd.underlying22 rfl (name_info hn) ?_) | (refine wpList_load_row (by rfl) 24 (.tmp 5) (by rfl) gb (by rfl) 24 (v8 seed) (0, 0) _ z1 Tryd.underlying24 rfl (id_info hs) ?_) | (go_at_call 25; (with_reducible refine Calls.mono (hSb _) ?_); rintro e w4 ⟨rfl, hb4⟩))
      go_ret
      exact ⟨rfl, zb.trans (hb4.mono zb.size)⟩
    · have hql : q < 4 := by omega
      have hqb : ((q : Int) == 4) = false := by simp; omega
      have hmb1 := hmb.below zb
      have hSq := fun wx => hSg q wx hql
      have hSlq := hSl q
      have hSoq := hSo q
      have hoq := hown q hql
      clear hSg hSl hSo hown hSb
      generalize SF q = SIG at *
      go_upto_region 13 with (first | (refine wpList_load_row (by rfl) 22 (.tmp 4) (by rfl) ga (by rfl) 22 (v8 nm) (0, 0) _ z0 Tryd.underlying22 rfl (name_info hn) ?_) | (refine wpList_load_row (by rfl) 24 (.tmp 5) (by rfl) gb (by rfl) 24 (v8 seed) (0, 0) _ z1 Tryd.underlying24 rfl (id_info hs) ?_) | (go_at_call 25; (with_reducible refine Calls.mono (hSq _ (hL.below zb) hmb1) ?_); rintro e w4 ⟨gs, rfl, hgs, rS, hb4⟩))
      have hzl := z1.lt
      have p0 := z0.below hb4 z0.lt
      have p1 := z1.below hb4 z1.lt
      have pb := zb.trans (hb4.mono zb.size)
      have oP4 := oz.below hb4 (Nat.le_refl _)
      have hmb4 := hmb.below pb
      have hgsb : gb < gs := by omega
      have hbk : ∀ k, (Value.slice spP 56 cpP).ownBlock = some k → k < gs := fun k hk => by have := own8_blk oz hk; omega
      have f1 : Calls Tryd.prog 27 #[.slice spP 56 cpP, .slice mp ml mc, .slice (some ⟨gs, 0, none⟩) 4364 4364] w4 fun e w' => e = .returned (.int .i64 0) ∧ Below w4.heap.size w4 w' := by
        have := hcZ SIG spP cpP (some ⟨gs, 0, none⟩) 4364 w4 (hL.below pb) hcP oP4.bytes hmb4 hSlq (Nat.le_refl _) rS.bytes hSoq
        rwa [hoq] at this
      clear z0 z1 oz zb hb4 hSq hmb1 hzl hoq hmb4
      go_upto_region 17 with (go_at_call 27; (with_reducible refine Calls.mono f1 ?_); rintro e w5 ⟨rfl, hb5⟩)
      have p0' := p0.below hb5 p0.lt
      have p1' := p1.below hb5 p1.lt
      have pb' := pb.trans (hb5.mono pb.size)
      have oP5 := oP4.below hb5 (Nat.le_refl _)
      have rS5 := rS.below hb5 rS.lt
      clear p0 p1 pb oP4 rS hb5 f1
      have c3 := rS5.cell8 (j := 3) (by omega)
      have f3 := rS5.frozen (j := 3)
      have hg3 := gi_oct hSoq 3 (by omega)
      obtain ⟨vx, hvx⟩ : ∃ vx, bits BinOp.xor IntKind.u8 (gi SIG 3) 1 = vx := ⟨_, rfl⟩
      have hvr : 0 ≤ vx ∧ vx < 256 := by
        rw [← hvx]
        have := xor_byte1 ⟨(gi SIG 3).toNat, by omega⟩
        simp only [Int.toNat_of_nonneg hg3.1] at this
        exact this
      go_upto_region 18 with fail

      clear hvx
      have y0 := p0'.setOther (a := ⟨gs, 3, none⟩) (by simp only; omega) (.int .u8 vx)
      have y1 := p1'.setOther (a := ⟨gs, 3, none⟩) (by simp only; omega) (.int .u8 vx)
      have yS := rS5.set8 3 vx
      have yb := pb'.setCell (p := ⟨gs, 3, none⟩) (by simp only; omega) (.int .u8 vx)
      have hgP : ∀ k, (Value.slice spP 56 cpP).ownBlock = some k → k ≠ gs := fun k hk => by have h1 := hbk k hk; show k ≠ gs; omega
      have oP6 := own8_setOther oP5 ⟨gs, 3, none⟩ (.int .u8 vx) hgP
      have hlS : (SIG.set 3 vx).length = 4364 := by simpa using hSlq
      have hoS := oct_set (k := 3) hSoq hvr
      change Code.wp _ _ _ _ (w5.setCell ⟨gs, 3, none⟩ (.int .u8 vx))
      generalize w5.setCell ⟨gs, 3, none⟩ (.int .u8 vx) = w6 at *
      generalize SIG.set 3 vx = SIG2 at *
      have hmb6 := hmb.below yb
      have f27 := hcZ SIG2 spP cpP (some ⟨gs, 0, none⟩) 4364 w6 (hL.below yb) hcP oP6.bytes hmb6 hlS (Nat.le_refl _) yS.bytes hoS
      have f28 := fun wx (hb : Below w6.heap.size w6 wx) => hcR SIG2 spP cpP (some ⟨gs, 0, none⟩) 4364 wx hcP (oP6.below hb (Nat.le_refl _)).bytes (hmb6.below hb) hlS (Nat.le_refl _) (yS.below hb yS.lt).bytes hoS
      generalize Z SIG2 = z2 at *
      clear p0' p1' pb' oP5 rS5 c3 f3 hcZ hcR hSlq hSoq hlS hoS
      go_wp2_with (first | (go_at_call 27; (with_reducible refine Calls.mono f27 ?_); rintro e w7 ⟨rfl, hb7⟩) | (go_at_call 28; (with_reducible refine Calls.mono (f28 _ hb7) ?_); rintro e w8 ⟨rfl, hb8⟩))
      have b78 := hb7.trans (hb8.mono hb7.size)
      go_roundw
      case rel => exact ⟨q + 1, by go_num, by omega, y0.below b78 y0.lt, y1.below b78 y1.lt, oP6.below b78 (Nat.le_refl _), yb.trans (b78.mono yb.size)⟩
      case measure => simp [intOf]; omega
theorem leaves6_any (S : List Int → List Int) (hS : Hash S) (nm seed msg : List Int) (h0 : Int) (mp : Option Addr) (ml mc : Nat) (w0 : World) (hL : Laid w0) (hn : nm.length = 16) (hs : seed.length = 32) (hnr : Oct nm) (hml : msg.length = ml) (hmn : mp = none → mc = 0 ∧ ml = 0) (hmb : Bytes w0 mp msg) :
    Calls Tryd.prog 12 #[.agg (v8 nm), .agg (v8 seed), .int .i64 h0, .slice mp ml mc] w0 fun e w' => e = .returned (.bool true) ∧ Below w0.heap.size w0 w' := by
  rcases (by omega : h0 % 2 = 0 ∨ h0 % 2 = 1) with h | h
  · exact leaves_1 S hS nm seed msg h0 mp ml mc w0 hL hn hs hnr hml hmn hmb h
  · exact leaves_2 S hS nm seed msg h0 mp ml mc w0 hL hn hs hnr hml hmn hmb h
end Go.Proofs.YtoebnkepeledmaaDoor
