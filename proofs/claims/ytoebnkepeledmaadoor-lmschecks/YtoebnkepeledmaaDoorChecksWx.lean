/- LmsChecks returns true and turns no old memory. -/
import Derived.Test.YtoebnkepeledmaaDoorOthersWx
import Derived.Test.YtoebnkepeledmaaDoorSixSx
import Derived.Test.YtoebnkepeledmaaDoorGk
namespace Go.Proofs.YtoebnkepeledmaaDoor
open Go Go.RowKit

theorem own8_lt {w : World} {B : Nat} {e : TypeId} {v : Value} {l : List Int} (h : Own8 w B e v l) {k : Nat} (hk : v.ownBlock = some k) : k < w.heap.size := by
  obtain ⟨_, h⟩ := h
  rcases h with ⟨rfl, _⟩ | ⟨g, cap', cur, hv, hg, hh, r⟩
  · cases hk
  · rw [hv] at hk; cases hk; exact Row.lt (t := e) (vs := cur) hh
theorem own8_off {w : World} {B : Nat} {e : TypeId} {v : Value} {l : List Int} (h : Own8 w B e v l) (p : Addr) (u : Value) (hne : ∀ k, v.ownBlock = some k → k ≠ p.block) : Own8 (w.setCell p u) B e v l := by
  obtain ⟨hl, h⟩ := h
  refine ⟨hl, ?_⟩
  rcases h with h | ⟨g, cap', cur, hv, hg, hh, r⟩
  · exact .inl h
  · exact .inr ⟨g, cap', cur, hv, hg, Row.setOther (t := e) (vs := cur) hh (hne g (by rw [hv]; rfl)) u, r⟩
def TupS (w : World) (B : Nat) (s : Value) (n : Nat) (L : List Int) : Prop := ∃ sp cap, s = .tuple #[.slice sp n cap, .int .i64 0] ∧ Own8 w B 5 (.slice sp n cap) L
theorem TupS.below {w w' : World} {B n : Nat} {s : Value} {L : List Int} (h : TupS w B s n L) (hb : Below w.heap.size w w') : TupS w' B s n L := by
  obtain ⟨sp, cap, rfl, h⟩ := h
  exact ⟨sp, cap, rfl, h.below hb (Nat.le_refl _)⟩
/-- A slice of bytes as it stands. -/
def Sl (w : World) (p : Option Addr) (n c : Nat) (l : List Int) : Prop := l.length = n ∧ n ≤ c ∧ Bytes w p l ∧ (p = none → c = 0 ∧ n = 0)
theorem Sl.below {w w' : World} {B n c : Nat} {p : Option Addr} {l : List Int} (h : Sl w p n c l) (hb : Below B w w') (hB : w.heap.size ≤ B) : Sl w' p n c l := ⟨h.1, h.2.1, h.2.2.1.below (hb.mono hB), h.2.2.2⟩
theorem Own8.sl {w : World} {B n c : Nat} {p : Option Addr} {l : List Int} (h : Own8 w B 5 (.slice p n c) l) (hn : l.length = n) : Sl w p n c l := ⟨hn, own8_cap h, h.bytes, own_nil0 h⟩
theorem pair_chk (S : List Int → List Int) (hS : Hash S) (P M G : List Int) (pp mp sp : Option Addr) (pl pc ml mc sl sc : Nat) (w : World) (hL : Laid w) (hP : Sl w pp pl pc P) (hPo : Oct P) (hM : Sl w mp ml mc M) (hm : ml ≤ 1000) (hG : Sl w sp sl sc G) (hGo : Oct G) :
    ∃ z : Int, (∀ wx, Below w.heap.size w wx → Calls Tryd.prog 27 #[.slice pp pl pc, .slice mp ml mc, .slice sp sl sc] wx fun e w' => e = .returned (.int .i64 z) ∧ Below wx.heap.size wx w') ∧
      ∀ wx, Below w.heap.size w wx → Calls Tryd.prog 28 #[.slice pp pl pc, .slice mp ml mc, .slice sp sl sc] wx fun e w' => e = .returned (.int .i64 z) ∧ Below wx.heap.size wx w' := by
  refine ⟨chkZ S P M G, fun wx hb => ?_, fun wx hb => ?_⟩
  · have h1 := hP.below hb (Nat.le_refl _)
    have h2 := hM.below hb (Nat.le_refl _)
    have h3 := hG.below hb (Nat.le_refl _)
    exact chk_any S hS P M G pp mp sp pl pc ml mc sl sc wx (hL.below hb) h1.1 h1.2.1 h1.2.2.1 hPo h2.1 (by omega) h2.2.2.1 h3.1 h3.2.1 h3.2.2.1 hGo
  · have h1 := hP.below hb (Nat.le_refl _)
    have h2 := hM.below hb (Nat.le_refl _)
    have h3 := hG.below hb (Nat.le_refl _)
    exact six_chk_any S hS P M G pp mp sp pl pc ml mc sl sc wx h1.1 h1.2.1 h1.2.2.1 hPo h2.1 (by omega) h2.2.2.1 h2.2.2.2 h3.1 h3.2.1 h3.2.2.1 hGo
theorem own8_open {w : World} {B n cap : Nat} {e : TypeId} {sp : Option Addr} {l : List Int} (h : Own8 w B e (.slice sp n cap) l) (h0 : 0 < l.length) : ∃ g, sp = some ⟨g, 0, none⟩ ∧ B ≤ g ∧ g < w.heap.size ∧ (∀ j, j < l.length → w.cell? ⟨g, j, none⟩ = some (.int .u8 (gi l j))) ∧ ∀ j, w.frozen? ⟨g, j, none⟩ = false := by
  obtain ⟨b, o, e1, hc⟩ := h.bytes h0
  obtain ⟨hl, h⟩ := h
  rcases h with ⟨h1, _⟩ | ⟨g', cap', cur, hv, hg, hh, _⟩
  · injection h1 with h2; rw [e1] at h2; cases h2
  · injection hv with h2
    rw [e1] at h2
    cases h2
    exact ⟨_, e1, hg, Row.lt (t := e) (vs := cur) hh, fun j hj => by have := hc j hj; rwa [Nat.zero_add] at this, fun j => Row.frozen (t := e) (vs := cur) hh⟩
theorem own8_set {w : World} {B g n cap k : Nat} {e : TypeId} {l : List Int} (h : Own8 w B e (.slice (some ⟨g, 0, none⟩) n cap) l) (v : Int) : Own8 (w.setCell ⟨g, k, none⟩ (.int .u8 v)) B e (.slice (some ⟨g, 0, none⟩) n cap) (l.set k v) := by
  obtain ⟨hl, h⟩ := h
  rcases h with ⟨h, _⟩ | ⟨g', cap', cur, hv, hg, hh, hn, hc, hs, ht⟩
  · injection h with h1; cases h1
  · injection hv with h1 h2 h3
    injection h1 with h1
    injection h1 with h1
    subst h1; subst h3
    refine ⟨by simp [hl], .inr ⟨g, cap, cur.setIfInBounds k (.int .u8 v), by rw [h2]; simp, hg, heap_setCell_same w g k cur e _ hh, by simpa using hn, hc, by simpa using hs, ?_⟩⟩
    simp only [Array.toList_setIfInBounds, List.length_set, List.map_set]
    rw [List.take_set, ht]
set_option maxRecDepth 20000 in
set_option maxHeartbeats 16000000 in
theorem checks_any (S : List Int → List Int) (hS : Hash S) (nm seed msg raw : List Int) (q0 at_ by_ how : Int) (mp rp : Option Addr) (ml mc rl rc : Nat) (w0 : World) (hL : Laid w0) (hn : nm.length = 16) (hs : seed.length = 32) (hnr : Oct nm) (hM0 : Sl w0 mp ml mc msg) (hR0 : Sl w0 rp rl rc raw) (hro : Oct raw) (hat : at_ ≤ 9223372036854775807) (_hb8 : 0 ≤ by_ ∧ by_ < 256) :
    Calls Tryd.prog 10 #[.agg (v8 nm), .agg (v8 seed), .int .i64 q0, .slice mp ml mc, .int .i64 at_, .int .u8 by_, .int .i64 how, .slice rp rl rc] w0 fun e w' => e = .returned (.bool true) ∧ Below w0.heap.size w0 w' := by
  have hK : ∀ wx, Laid wx → Calls Tryd.prog 21 #[] wx fun e w' => e = .returned (.bool true) ∧ Below wx.heap.size wx w' := fun wx hl => known6_any S hS wx hl
  have r0 : Row (World.alloc (World.alloc w0 (.cells (v8 nm) 22)) (.cells (v8 seed) 24)) w0.heap.size 22 (v8 nm) := (Row.new _ _ _).alloc _
  have r1 : Row (World.alloc (World.alloc w0 (.cells (v8 nm) 22)) (.cells (v8 seed) 24)) (w0.heap.size + 1) 24 (v8 seed) := Row.newAt _ _ _ _ (by simp)
  have b1 : Below w0.heap.size w0 (World.alloc (World.alloc w0 (.cells (v8 nm) 22)) (.cells (v8 seed) 24)) := ((Below.refl _ _).alloc (Nat.le_refl _) _).alloc (by simp) _
  by_cases h200 : ml > 200
  · have h200i : (200 : Int) < ml := by omega
    clear hM0 hR0
    go_enter Tryd.func10, Tryd.ntmps10
    go_upto_region 1 with fail
    change Code.wp _ _ _ _ (World.alloc (World.alloc w0 (.cells (v8 nm) 22)) (.cells (v8 seed) 24))
    generalize (World.alloc (World.alloc w0 (.cells (v8 nm) 22)) (.cells (v8 seed) 24)) = w1 at r0 r1 b1 ⊢
    go_wp2_with (go_at_call 21; (with_reducible refine Calls.mono (hK _ (hL.below b1)) ?_); rintro e w2 ⟨rfl, hb2⟩)
    go_ret
    exact ⟨rfl, b1.trans (hb2.mono b1.size)⟩
  have h200i : (ml : Int) ≤ 200 := by omega
  by_cases h6k : rl > 6000
  · have h6ki : (6000 : Int) < rl := by omega
    clear hM0 hR0
    go_enter Tryd.func10, Tryd.ntmps10
    go_upto_region 1 with fail
    change Code.wp _ _ _ _ (World.alloc (World.alloc w0 (.cells (v8 nm) 22)) (.cells (v8 seed) 24))
    generalize (World.alloc (World.alloc w0 (.cells (v8 nm) 22)) (.cells (v8 seed) 24)) = w1 at r0 r1 b1 ⊢
    go_wp2_with (go_at_call 21; (with_reducible refine Calls.mono (hK _ (hL.below b1)) ?_); rintro e w2 ⟨rfl, hb2⟩)
    go_ret
    exact ⟨rfl, b1.trans (hb2.mono b1.size)⟩
  have h6ki : (rl : Int) ≤ 6000 := by omega
  by_cases ha0 : at_ < 0
  · have ha1 : at_ < 0 := ha0
    clear hM0 hR0
    go_enter Tryd.func10, Tryd.ntmps10
    go_upto_region 1 with fail
    change Code.wp _ _ _ _ (World.alloc (World.alloc w0 (.cells (v8 nm) 22)) (.cells (v8 seed) 24))
    generalize (World.alloc (World.alloc w0 (.cells (v8 nm) 22)) (.cells (v8 seed) 24)) = w1 at r0 r1 b1 ⊢
    go_wp2_with (go_at_call 21; (with_reducible refine Calls.mono (hK _ (hL.below b1)) ?_); rintro e w2 ⟨rfl, hb2⟩)
    go_ret
    exact ⟨rfl, b1.trans (hb2.mono b1.size)⟩
  have ha1 : 0 ≤ at_ := by omega
  obtain ⟨q, hqq⟩ : ∃ q : Nat, q0 % 2 = (q : Int) := ⟨(q0 % 2).toNat, by omega⟩
  have hq2 : q < 2 ^ 1 := by have := Int.emod_lt_of_pos q0 (show (0 : Int) < 2 by decide); omega
  have hw2 : ∀ wx, Calls Tryd.prog 24 #[.int .i64 q0, .int .i64 2] wx fun e w' => e = .returned (.int .i64 (q : Int)) ∧ w' = wx := fun wx => by
    have := within6_any q0 2 wx (by omega) (by omega)
    rwa [hqq] at this
  have hw7 := fun wx => within6_any how 7 wx (by omega) (by omega)
  have hP : ∀ wx, Calls Tryd.prog 23 #[.agg (v8 nm), .agg (v8 seed), .int .i64 1] wx fun e w' => ∃ sp cap, e = .returned (.tuple #[.slice sp 56 cap, .int .i64 0]) ∧ Own8 w' wx.heap.size 5 (.slice sp 56 cap) (keyL 1 nm (nodeN S nm seed (2 ^ 1) 1)) ∧ Below wx.heap.size wx w' := fun wx => sixPublic_any S hS nm seed 1 wx hn hs (by omega) (by omega)
  have hSg : ∀ wx, Bytes wx mp msg → Calls Tryd.prog 26 #[.agg (v8 nm), .agg (v8 seed), .int .i64 1, .int .i64 (q : Int), .slice mp ml mc] wx fun e w' => ∃ sp cap, e = .returned (.tuple #[.slice sp 4332 cap, .int .i64 0]) ∧ Own8 w' wx.heap.size 5 (.slice sp 4332 cap) (lsigL S nm seed 1 q msg) ∧ Below wx.heap.size wx w' := fun wx hb => sixSign_any S hS nm seed msg 1 q mp ml mc wx hn hs hM0.1 hM0.2.2.2 (by omega) hb (by omega) (by omega) hq2
  have hOc : ∀ l, Oct (S l) := fun l => hS.oct l
  have hKl : (keyL 1 nm (nodeN S nm seed (2 ^ 1) 1)).length = 56 := keyL_len hn (nodeN_len (fun l => hS.len l) _ _ _ _)
  have hKo : Oct (keyL 1 nm (nodeN S nm seed (2 ^ 1) 1)) := oct_key hnr (oct_node hOc _ _ _ _)
  have hSl : (lsigL S nm seed 1 q msg).length = 4332 := lsigL_len (fun l => hS.len l) nm seed 1 q msg
  have hSo : Oct (lsigL S nm seed 1 q msg) := oct_lsig hOc nm seed 1 q msg
  generalize keyL 1 nm (nodeN S nm seed (2 ^ 1) 1) = KEY at *
  generalize lsigL S nm seed 1 q msg = SIG at *
  have hy : how % 7 = 0 ∨ how % 7 = 1 ∨ how % 7 = 2 ∨ how % 7 = 3 ∨ how % 7 = 4 ∨ how % 7 = 5 ∨ how % 7 = 6 := by omega
  generalize how % 7 = y at *
  obtain ⟨ks, hks⟩ : ∃ ks : Nat, at_ % 4332 = (ks : Int) := ⟨(at_ % 4332).toNat, by omega⟩
  obtain ⟨kp, hkp⟩ : ∃ kp : Nat, at_ % 56 = (kp : Int) := ⟨(at_ % 56).toNat, by omega⟩
  obtain ⟨kt, hkt⟩ : ∃ kt : Nat, at_ % 36 = (kt : Int) := ⟨(at_ % 36).toNat, by omega⟩
  have hks2 : ks < 4332 := by omega
  have hkp2 : kp < 56 := by omega
  have hkt2 : kt < 36 := by omega
  have ts : at_.tmod 4332 = (ks : Int) := by rw [Int.tmod_eq_emod_of_nonneg ha1]; exact hks
  have tp : at_.tmod 56 = (kp : Int) := by rw [Int.tmod_eq_emod_of_nonneg ha1]; exact hkp
  have tt : at_.tmod 36 = (kt : Int) := by rw [Int.tmod_eq_emod_of_nonneg ha1]; exact hkt
  clear hOc hqq hq2 hks hkp hkt
  have hMR : Hid (Sl w0 mp ml mc msg ∧ Sl w0 rp rl rc raw) := ⟨hM0, hR0⟩
  have hmb : Bytes w0 mp msg := hM0.2.2.1
  clear hM0 hR0
  go_enter Tryd.func10, Tryd.ntmps10
  go_upto_region 1 with fail
  change Code.wp _ _ _ _ (World.alloc (World.alloc w0 (.cells (v8 nm) 22)) (.cells (v8 seed) 24))
  obtain ⟨ga, hga⟩ : ∃ ga, w0.heap.size = ga := ⟨_, rfl⟩
  obtain ⟨gb, hgb⟩ : ∃ gb, ga + 1 = gb := ⟨_, rfl⟩
  generalize (World.alloc (World.alloc w0 (.cells (v8 nm) 22)) (.cells (v8 seed) 24)) = w1 at r0 r1 b1 ⊢
  rw [hga] at r0
  rw [hga, hgb] at r1
  simp only [hga, hgb]
  go_upto_region 5 with (go_at_call 21; (with_reducible refine Calls.mono (hK _ (hL.below b1)) ?_); rintro e w2 ⟨rfl, hb2⟩)
  have p0 := r0.below hb2 r0.lt
  have p1 := r1.below hb2 r1.lt
  have pb := b1.trans (hb2.mono b1.size)
  clear r0 r1 b1 hb2 hK
  go_upto_region 6 with (first | (refine wpList_load_row (by rfl) 22 (.tmp 8) (by rfl) ga (by rfl) 22 (v8 nm) (0, 0) _ p0 Tryd.underlying22 rfl (name_info hn) ?_) | (refine wpList_load_row (by rfl) 24 (.tmp 9) (by rfl) gb (by rfl) 24 (v8 seed) (0, 0) _ p1 Tryd.underlying24 rfl (id_info hs) ?_) | (go_at_call 23; (with_reducible refine Calls.mono (hP _) ?_); rintro e w3 ⟨spP, cpP, rfl, oP, hb3⟩))
  have z0 := p0.below hb3 p0.lt
  have z1 := p1.below hb3 p1.lt
  have zb := pb.trans (hb3.mono pb.size)
  have hgaw : w0.heap.size ≤ ga := by omega
  have pbs := pb.size
  clear p0 p1 pb hb3 hP
  have hw2b : ∀ wx, Calls Tryd.prog 24 #[.int .i64 q0, .int .i64 2] wx fun e w' => e = .returned (.int .i64 (q : Int)) ∧ Below wx.heap.size wx w' := fun wx => (hw2 wx).mono fun e w' ⟨h1, h2⟩ => ⟨h1, by rw [h2]; exact Below.refl _ _⟩
  obtain ⟨B, hB⟩ : ∃ B, B = w3.heap.size := ⟨_, rfl⟩
  have hsB : ∀ {w : World}, Below B w3 w → B ≤ w.heap.size := fun h => by have := h.size; omega
  have hz0 := z0.lt
  have hz1 := z1.lt
  have hzb := zb.size
  clear hw2
  refine region_invFA  (by kernel_rfl) (by kernel_rfl) (fun a0 listed a w => ∃ s19 s20 s41 s42 s43 s44 s45 s46 s47 s48 s49, a = (Act.put (Act.put (Act.put (Act.put (Act.put (Act.put (Act.put (Act.put (Act.put (Act.put (Act.put a0 (some 19) s19) (some 20) s20) (some 41) s41) (some 42) s42) (some 43) s43) (some 44) s44) (some 45) s45) (some 46) s46) (some 47) s47) (some 48) s48) (some 49) s49) ∧ Below B w3 w ∧ (listed.getD 0 false = true → s42 = .agg (v8 nm)) ∧ (listed.getD 1 false = true → s43 = .agg (v8 seed)) ∧ (listed.getD 2 false = true → s44 = .int .i64 q0) ∧ (listed.getD 3 false = true → s45 = .int .i64 (q : Int)) ∧ (listed.getD 4 false = true → s46 = .slice mp ml mc) ∧ (listed.getD 5 false = true → TupS w B s47 4332 SIG) ∧ (listed.getD 6 false = true → TupS w B s41 4332 SIG) ∧ (listed.getD 7 false = true → OwnS w B s48 4332 SIG) ∧ (listed.getD 8 false = true → s49 = .int .i64 0) ∧ (listed.getD 9 false = true → OwnS w B s19 4332 SIG) ∧ (listed.getD 10 false = true → s20 = .int .i64 0)) ?_ ?_ ?_
  all_goals simp only [Act.put, List.setIfInBounds_toArray, List.set_cons_succ, List.set_cons_zero]
  · exact ⟨_, _, _, _, _, _, _, _, _, _, _, rfl, (Below.refl B _).drew, (fun h => absurd h (by rw [getD_replicate_false]; decide)), (fun h => absurd h (by rw [getD_replicate_false]; decide)), (fun h => absurd h (by rw [getD_replicate_false]; decide)), (fun h => absurd h (by rw [getD_replicate_false]; decide)), (fun h => absurd h (by rw [getD_replicate_false]; decide)), (fun h => absurd h (by rw [getD_replicate_false]; decide)), (fun h => absurd h (by rw [getD_replicate_false]; decide)), (fun h => absurd h (by rw [getD_replicate_false]; decide)), (fun h => absurd h (by rw [getD_replicate_false]; decide)), (fun h => absurd h (by rw [getD_replicate_false]; decide)), (fun h => absurd h (by rw [getD_replicate_false]; decide))⟩
  · intro listed a w i o hls hJ hin ho hi hall hcl
    obtain ⟨s19, s20, s41, s42, s43, s44, s45, s46, s47, s48, s49, rfl, hbW, c0, c1, c2, c3, c4, c5, c6, c7, c8, c9, c10⟩ := hJ
    replace hin : i < 11 := hin
    rcases (by omega : i = 0 ∨ i = 1 ∨ i = 2 ∨ i = 3 ∨ i = 4 ∨ i = 5 ∨ i = 6 ∨ i = 7 ∨ i = 8 ∨ i = 9 ∨ i = 10) with rfl | rfl | rfl | rfl | rfl | rfl | rfl | rfl | rfl | rfl | rfl
    · obtain rfl := Option.some.inj ho
      have hsz : 0 < listed.size := by rw [hls]; decide
      have hbw := hbW
      refine inv_val (w' := w) (.agg (v8 nm)) rfl rfl (exec_load_row 22 (.tmp 8) rfl ga rfl 22 _ _ (z0.below hbW (by omega)) Tryd.underlying22 rfl (name_info hn)) ?_
      exact ⟨s19, s20, s41, (.agg (v8 nm)), s43, s44, s45, s46, s47, s48, s49, rfl, hbw, (fun _ => rfl), (fun h => c1 (bit_ne h (by decide))), (fun h => c2 (bit_ne h (by decide))), (fun h => c3 (bit_ne h (by decide))), (fun h => c4 (bit_ne h (by decide))), (fun h => c5 (bit_ne h (by decide))), (fun h => c6 (bit_ne h (by decide))), (fun h => c7 (bit_ne h (by decide))), (fun h => c8 (bit_ne h (by decide))), (fun h => c9 (bit_ne h (by decide))), (fun h => c10 (bit_ne h (by decide)))⟩
    · obtain rfl := Option.some.inj ho
      have hsz : 1 < listed.size := by rw [hls]; decide
      have hbw := hbW
      refine inv_val (w' := w) (.agg (v8 seed)) rfl rfl (exec_load_row 24 (.tmp 9) rfl gb rfl 24 _ _ (z1.below hbW (by omega)) Tryd.underlying24 rfl (id_info hs)) ?_
      exact ⟨s19, s20, s41, s42, (.agg (v8 seed)), s44, s45, s46, s47, s48, s49, rfl, hbw, (fun h => c0 (bit_ne h (by decide))), (fun _ => rfl), (fun h => c2 (bit_ne h (by decide))), (fun h => c3 (bit_ne h (by decide))), (fun h => c4 (bit_ne h (by decide))), (fun h => c5 (bit_ne h (by decide))), (fun h => c6 (bit_ne h (by decide))), (fun h => c7 (bit_ne h (by decide))), (fun h => c8 (bit_ne h (by decide))), (fun h => c9 (bit_ne h (by decide))), (fun h => c10 (bit_ne h (by decide)))⟩
    · obtain rfl := Option.some.inj ho
      have hsz : 2 < listed.size := by rw [hls]; decide
      have hbw := hbW
      refine inv_val (w' := w) (.int .i64 q0) rfl rfl rfl ?_
      exact ⟨s19, s20, s41, s42, s43, (.int .i64 q0), s45, s46, s47, s48, s49, rfl, hbw, (fun h => c0 (bit_ne h (by decide))), (fun h => c1 (bit_ne h (by decide))), (fun _ => rfl), (fun h => c3 (bit_ne h (by decide))), (fun h => c4 (bit_ne h (by decide))), (fun h => c5 (bit_ne h (by decide))), (fun h => c6 (bit_ne h (by decide))), (fun h => c7 (bit_ne h (by decide))), (fun h => c8 (bit_ne h (by decide))), (fun h => c9 (bit_ne h (by decide))), (fun h => c10 (bit_ne h (by decide)))⟩
    · obtain rfl := Option.some.inj ho
      have hsz : 3 < listed.size := by rw [hls]; decide
      have hdep2 : listed.getD 2 false = true := hall ⟨2, .data⟩ (by simp) (by rfl)
      obtain rfl := c2 hdep2
      refine inv_call 24 #[.int .i64 q0, .int .i64 2] _ rfl rfl (by kernel_rfl) (hw2b w) ?_
      rintro e w' ⟨rfl, hb⟩
      have hbw : Below B w3 w' := hbW.trans (hb.mono (hsB hbW))
      refine ⟨_, rfl, ?_⟩
      exact ⟨s19, s20, s41, s42, s43, (.int .i64 q0), (.int .i64 (q : Int)), s46, s47, s48, s49, rfl, hbw, (fun h => c0 (bit_ne h (by decide))), (fun h => c1 (bit_ne h (by decide))), (fun h => c2 (bit_ne h (by decide))), (fun _ => rfl), (fun h => c4 (bit_ne h (by decide))), (fun h => (c5 (bit_ne h (by decide))).below hb), (fun h => (c6 (bit_ne h (by decide))).below hb), (fun h => (c7 (bit_ne h (by decide))).below hb), (fun h => c8 (bit_ne h (by decide))), (fun h => (c9 (bit_ne h (by decide))).below hb), (fun h => c10 (bit_ne h (by decide)))⟩
    · obtain rfl := Option.some.inj ho
      have hsz : 4 < listed.size := by rw [hls]; decide
      have hbw := hbW
      refine inv_val (w' := w) (.slice mp ml mc) rfl rfl rfl ?_
      exact ⟨s19, s20, s41, s42, s43, s44, s45, (.slice mp ml mc), s47, s48, s49, rfl, hbw, (fun h => c0 (bit_ne h (by decide))), (fun h => c1 (bit_ne h (by decide))), (fun h => c2 (bit_ne h (by decide))), (fun h => c3 (bit_ne h (by decide))), (fun _ => rfl), (fun h => c5 (bit_ne h (by decide))), (fun h => c6 (bit_ne h (by decide))), (fun h => c7 (bit_ne h (by decide))), (fun h => c8 (bit_ne h (by decide))), (fun h => c9 (bit_ne h (by decide))), (fun h => c10 (bit_ne h (by decide)))⟩
    · obtain rfl := Option.some.inj ho
      have hsz : 5 < listed.size := by rw [hls]; decide
      have hdep0 : listed.getD 0 false = true := hall ⟨0, .data⟩ (by simp) (by rfl)
      obtain rfl := c0 hdep0
      have hdep1 : listed.getD 1 false = true := hall ⟨1, .data⟩ (by simp) (by rfl)
      obtain rfl := c1 hdep1
      have hdep3 : listed.getD 3 false = true := hall ⟨3, .data⟩ (by simp) (by rfl)
      obtain rfl := c3 hdep3
      have hdep4 : listed.getD 4 false = true := hall ⟨4, .data⟩ (by simp) (by rfl)
      obtain rfl := c4 hdep4
      refine inv_call 26 #[.agg (v8 nm), .agg (v8 seed), .int .i64 1, .int .i64 (q : Int), .slice mp ml mc] _ rfl rfl (by kernel_rfl) (hSg w (hmb.below (zb.trans (hbW.mono (by omega))))) ?_
      rintro e w' ⟨sp, cap, rfl, ow, hb⟩
      have hbw : Below B w3 w' := hbW.trans (hb.mono (hsB hbW))
      refine ⟨_, rfl, ?_⟩
      exact ⟨s19, s20, s41, (.agg (v8 nm)), (.agg (v8 seed)), s44, (.int .i64 (q : Int)), (.slice mp ml mc), (.tuple #[.slice sp 4332 cap, .int .i64 0]), s48, s49, rfl, hbw, (fun h => c0 (bit_ne h (by decide))), (fun h => c1 (bit_ne h (by decide))), (fun h => c2 (bit_ne h (by decide))), (fun h => c3 (bit_ne h (by decide))), (fun h => c4 (bit_ne h (by decide))), (fun _ => ⟨sp, cap, rfl, ow.mono (hsB hbW)⟩), (fun h => (c6 (bit_ne h (by decide))).below hb), (fun h => (c7 (bit_ne h (by decide))).below hb), (fun h => c8 (bit_ne h (by decide))), (fun h => (c9 (bit_ne h (by decide))).below hb), (fun h => c10 (bit_ne h (by decide)))⟩
    · obtain rfl := Option.some.inj ho
      have hsz : 6 < listed.size := by rw [hls]; decide
      have hdep5 : listed.getD 5 false = true := hall ⟨5, .data⟩ (by simp) (by rfl)
      obtain ⟨sp5, cap5, rfl, o5⟩ := c5 hdep5
      have hbw := hbW
      refine inv_val (w' := w) (.tuple #[.slice sp5 4332 cap5, .int .i64 0]) rfl rfl rfl ?_
      exact ⟨s19, s20, (.tuple #[.slice sp5 4332 cap5, .int .i64 0]), s42, s43, s44, s45, s46, (.tuple #[.slice sp5 4332 cap5, .int .i64 0]), s48, s49, rfl, hbw, (fun h => c0 (bit_ne h (by decide))), (fun h => c1 (bit_ne h (by decide))), (fun h => c2 (bit_ne h (by decide))), (fun h => c3 (bit_ne h (by decide))), (fun h => c4 (bit_ne h (by decide))), (fun h => c5 (bit_ne h (by decide))), (fun _ => ⟨sp5, cap5, rfl, o5⟩), (fun h => c7 (bit_ne h (by decide))), (fun h => c8 (bit_ne h (by decide))), (fun h => c9 (bit_ne h (by decide))), (fun h => c10 (bit_ne h (by decide)))⟩
    · obtain rfl := Option.some.inj ho
      have hsz : 7 < listed.size := by rw [hls]; decide
      have hdep6 : listed.getD 6 false = true := hall ⟨6, .data⟩ (by simp) (by rfl)
      obtain ⟨sp6, cap6, rfl, o6⟩ := c6 hdep6
      have hbw := hbW
      refine inv_val (w' := w) (.slice sp6 4332 cap6) rfl rfl rfl ?_
      exact ⟨s19, s20, (.tuple #[.slice sp6 4332 cap6, .int .i64 0]), s42, s43, s44, s45, s46, s47, (.slice sp6 4332 cap6), s49, rfl, hbw, (fun h => c0 (bit_ne h (by decide))), (fun h => c1 (bit_ne h (by decide))), (fun h => c2 (bit_ne h (by decide))), (fun h => c3 (bit_ne h (by decide))), (fun h => c4 (bit_ne h (by decide))), (fun h => c5 (bit_ne h (by decide))), (fun h => c6 (bit_ne h (by decide))), (fun _ => ⟨sp6, cap6, rfl, o6⟩), (fun h => c8 (bit_ne h (by decide))), (fun h => c9 (bit_ne h (by decide))), (fun h => c10 (bit_ne h (by decide)))⟩
    · obtain rfl := Option.some.inj ho
      have hsz : 8 < listed.size := by rw [hls]; decide
      have hdep6 : listed.getD 6 false = true := hall ⟨6, .data⟩ (by simp) (by rfl)
      obtain ⟨sp6, cap6, rfl, o6⟩ := c6 hdep6
      have hbw := hbW
      refine inv_val (w' := w) (.int .i64 0) rfl rfl rfl ?_
      exact ⟨s19, s20, (.tuple #[.slice sp6 4332 cap6, .int .i64 0]), s42, s43, s44, s45, s46, s47, s48, (.int .i64 0), rfl, hbw, (fun h => c0 (bit_ne h (by decide))), (fun h => c1 (bit_ne h (by decide))), (fun h => c2 (bit_ne h (by decide))), (fun h => c3 (bit_ne h (by decide))), (fun h => c4 (bit_ne h (by decide))), (fun h => c5 (bit_ne h (by decide))), (fun h => c6 (bit_ne h (by decide))), (fun h => c7 (bit_ne h (by decide))), (fun _ => rfl), (fun h => c9 (bit_ne h (by decide))), (fun h => c10 (bit_ne h (by decide)))⟩
    · obtain rfl := Option.some.inj ho
      have hsz : 9 < listed.size := by rw [hls]; decide
      have hdep7 : listed.getD 7 false = true := hall ⟨7, .data⟩ (by simp) (by rfl)
      obtain ⟨sp7, cap7, rfl, o7⟩ := c7 hdep7
      have hbw := hbW
      refine inv_val (w' := w) (.slice sp7 4332 cap7) rfl rfl rfl ?_
      exact ⟨(.slice sp7 4332 cap7), s20, s41, s42, s43, s44, s45, s46, s47, (.slice sp7 4332 cap7), s49, rfl, hbw, (fun h => c0 (bit_ne h (by decide))), (fun h => c1 (bit_ne h (by decide))), (fun h => c2 (bit_ne h (by decide))), (fun h => c3 (bit_ne h (by decide))), (fun h => c4 (bit_ne h (by decide))), (fun h => c5 (bit_ne h (by decide))), (fun h => c6 (bit_ne h (by decide))), (fun h => c7 (bit_ne h (by decide))), (fun h => c8 (bit_ne h (by decide))), (fun _ => ⟨sp7, cap7, rfl, o7⟩), (fun h => c10 (bit_ne h (by decide)))⟩
    · obtain rfl := Option.some.inj ho
      have hsz : 10 < listed.size := by rw [hls]; decide
      have hdep8 : listed.getD 8 false = true := hall ⟨8, .data⟩ (by simp) (by rfl)
      obtain rfl := c8 hdep8
      have hbw := hbW
      refine inv_val (w' := w) (.int .i64 0) rfl rfl rfl ?_
      exact ⟨s19, (.int .i64 0), s41, s42, s43, s44, s45, s46, s47, s48, (.int .i64 0), rfl, hbw, (fun h => c0 (bit_ne h (by decide))), (fun h => c1 (bit_ne h (by decide))), (fun h => c2 (bit_ne h (by decide))), (fun h => c3 (bit_ne h (by decide))), (fun h => c4 (bit_ne h (by decide))), (fun h => c5 (bit_ne h (by decide))), (fun h => c6 (bit_ne h (by decide))), (fun h => c7 (bit_ne h (by decide))), (fun h => c8 (bit_ne h (by decide))), (fun h => c9 (bit_ne h (by decide))), (fun _ => rfl)⟩
  · intro listed a w hall hJ
    obtain ⟨s19, s20, s41, s42, s43, s44, s45, s46, s47, s48, s49, rfl, hbW, c0, c1, c2, c3, c4, c5, c6, c7, c8, c9, c10⟩ := hJ
    obtain rfl := c0 (hall 0 (by decide))
    obtain rfl := c1 (hall 1 (by decide))
    obtain rfl := c2 (hall 2 (by decide))
    obtain rfl := c3 (hall 3 (by decide))
    obtain rfl := c4 (hall 4 (by decide))
    obtain ⟨sp5, cap5, rfl, o5⟩ := c5 (hall 5 (by decide))
    obtain ⟨sp6, cap6, rfl, o6⟩ := c6 (hall 6 (by decide))
    obtain ⟨sp7, cap7, rfl, o7⟩ := c7 (hall 7 (by decide))
    obtain rfl := c8 (hall 8 (by decide))
    obtain ⟨sp9, cap9, rfl, o9⟩ := c9 (hall 9 (by decide))
    obtain rfl := c10 (hall 10 (by decide))
    have ub := zb.trans (hbW.mono (by omega))
    have oPw := (oP.below hbW (by omega)).mono (show w0.heap.size ≤ w2.heap.size from pbs)
    have hBw : w0.heap.size ≤ B := by omega
    have hPlt : ∀ k, (Value.slice spP 56 cpP).ownBlock = some k → k < B := fun k hk => by rw [hB]; exact own8_lt oP hk
    have hsB5 := hsB hbW
    clear z0 z1 zb oP hall hbW c0 c1 c2 c3 c4 c5 c6 c7 c8 c9 c10 o5 o6 o7 hw2b hSg hmb hsB hB listed
    generalize w = w5 at *
    obtain ⟨hM0, hR0⟩ := hMR
    have hM5 := hM0.below ub (Nat.le_refl _)
    have hR5 := hR0.below ub (Nat.le_refl _)
    obtain ⟨gP, rfl, hgP, hgPl, cP, fP⟩ := own8_open oPw (by rw [hKl]; decide)
    obtain ⟨gS, rfl, hgS, hgSl, cS, fS⟩ := own8_open o9 (by rw [hSl]; decide)
    have hPS : gP < gS := by have := hPlt gP rfl; omega
    have hcP := own8_cap oPw
    have hcS := own8_cap o9
    have hcPi : (56 : Int) ≤ (cpP : Int) := by omega
    have hcSi : (4332 : Int) ≤ (cap9 : Int) := by omega
    have hub := ub.size
    clear hPlt
    rcases hy with rfl | rfl | rfl | rfl | rfl | rfl | rfl
    · have hkI : (ks : Int) < 4332 := by omega
      have ck := cS ks (by omega)
      have fk := fS ks
      go_upto_region 8 with (go_at_call 24; (with_reducible refine Calls.mono (hw7 _) ?_); rintro e1 w6 ⟨rfl, hw⟩; obtain rfl := hw.symm; clear hw)
      go_upto_region 22 with fail
      obtain ⟨v, hv⟩ : ∃ v, (gi SIG ks + by_) % 256 = v := ⟨_, rfl⟩
      rw [hv]
      have hvr : 0 ≤ v ∧ v < 256 := by omega
      clear hv ck fk
      have ub6 := ub.setCell (p := ⟨gS, ks, none⟩) (by show w0.heap.size ≤ gS; omega) (.int .u8 v)
      have oW := own8_set (k := ks) o9 v
      have oO := own8_off oPw ⟨gS, ks, none⟩ (.int .u8 v) (fun j hj => by cases hj; show gP ≠ gS; omega)
      have tM := hM0.below ub6 (Nat.le_refl _)
      have tR := hR0.below ub6 (Nat.le_refl _)
      change Code.wp _ _ _ _ (w5.setCell ⟨gS, ks, none⟩ (.int .u8 v))
      generalize w5.setCell ⟨gS, ks, none⟩ (.int .u8 v) = w6 at *
      have hlw : (SIG.set ks v).length = 4332 := by simpa using hSl
      have how6 := oct_set (k := ks) hSo hvr
      have tG := oW.sl hlw
      have tGo := how6
      have tP := oO.sl hKl
      have tPo := hKo
      clear oW oO
      generalize SIG.set ks v = LST at *
      obtain ⟨za, k1, k2⟩ := pair_chk S hS (KEY) (msg) (LST) (some ⟨gP, 0, none⟩) (mp) (some ⟨gS, 0, none⟩) (56) (cpP) (ml) (mc) (4332) (cap9) w6 (hL.below ub6) tP tPo tM (by omega) tG tGo
      obtain ⟨zb, k3, k4⟩ := pair_chk S hS raw (msg) (LST) rp (mp) (some ⟨gS, 0, none⟩) rl rc (ml) (mc) (4332) (cap9) w6 (hL.below ub6) tR hro tM (by omega) tG tGo
      obtain ⟨zc, k5, k6⟩ := pair_chk S hS (KEY) (msg) raw (some ⟨gP, 0, none⟩) (mp) rp (56) (cpP) (ml) (mc) rl rc w6 (hL.below ub6) tP tPo tM (by omega) tR hro
      have hB := Below.refl w6.heap.size w6
      clear tP tM tG tR tPo tGo hM0 hR0 hM5 hR5 cP cS fP fS oPw o9 hKl hSl hKo hSo hro hw7
      go_wp2_with (first | (go_at_call 27; (with_reducible refine Calls.mono (k1 _ hB) ?_); rintro e wa ⟨rfl, hba⟩; replace hB := hB.trans (hba.mono hB.size)) | (go_at_call 28; (with_reducible refine Calls.mono (k2 _ hB) ?_); rintro e wa ⟨rfl, hba⟩; replace hB := hB.trans (hba.mono hB.size)) | (go_at_call 27; (with_reducible refine Calls.mono (k3 _ hB) ?_); rintro e wa ⟨rfl, hba⟩; replace hB := hB.trans (hba.mono hB.size)) | (go_at_call 28; (with_reducible refine Calls.mono (k4 _ hB) ?_); rintro e wa ⟨rfl, hba⟩; replace hB := hB.trans (hba.mono hB.size)) | (go_at_call 27; (with_reducible refine Calls.mono (k5 _ hB) ?_); rintro e wa ⟨rfl, hba⟩; replace hB := hB.trans (hba.mono hB.size)) | (go_at_call 28; (with_reducible refine Calls.mono (k6 _ hB) ?_); rintro e wa ⟨rfl, hba⟩; replace hB := hB.trans (hba.mono hB.size)))
      go_ret
      exact ⟨rfl, ub6.trans (hB.mono ub6.size)⟩
    · have hkI : (kp : Int) < 56 := by omega
      have ck := cP kp (by omega)
      have fk := fP kp
      go_upto_region 8 with (go_at_call 24; (with_reducible refine Calls.mono (hw7 _) ?_); rintro e1 w6 ⟨rfl, hw⟩; obtain rfl := hw.symm; clear hw)
      go_upto_region 22 with fail
      obtain ⟨v, hv⟩ : ∃ v, (gi KEY kp + by_) % 256 = v := ⟨_, rfl⟩
      rw [hv]
      have hvr : 0 ≤ v ∧ v < 256 := by omega
      clear hv ck fk
      have ub6 := ub.setCell (p := ⟨gP, kp, none⟩) (by show w0.heap.size ≤ gP; omega) (.int .u8 v)
      have oW := own8_set (k := kp) oPw v
      have oO := own8_off o9 ⟨gP, kp, none⟩ (.int .u8 v) (fun j hj => by cases hj; show gS ≠ gP; omega)
      have tM := hM0.below ub6 (Nat.le_refl _)
      have tR := hR0.below ub6 (Nat.le_refl _)
      change Code.wp _ _ _ _ (w5.setCell ⟨gP, kp, none⟩ (.int .u8 v))
      generalize w5.setCell ⟨gP, kp, none⟩ (.int .u8 v) = w6 at *
      have hlw : (KEY.set kp v).length = 56 := by simpa using hKl
      have how6 := oct_set (k := kp) hKo hvr
      have tP := oW.sl hlw
      have tPo := how6
      have tG := oO.sl hSl
      have tGo := hSo
      clear oW oO
      generalize KEY.set kp v = LST at *
      obtain ⟨za, k1, k2⟩ := pair_chk S hS (LST) (msg) (SIG) (some ⟨gP, 0, none⟩) (mp) (some ⟨gS, 0, none⟩) (56) (cpP) (ml) (mc) (4332) (cap9) w6 (hL.below ub6) tP tPo tM (by omega) tG tGo
      obtain ⟨zb, k3, k4⟩ := pair_chk S hS raw (msg) (SIG) rp (mp) (some ⟨gS, 0, none⟩) rl rc (ml) (mc) (4332) (cap9) w6 (hL.below ub6) tR hro tM (by omega) tG tGo
      obtain ⟨zc, k5, k6⟩ := pair_chk S hS (LST) (msg) raw (some ⟨gP, 0, none⟩) (mp) rp (56) (cpP) (ml) (mc) rl rc w6 (hL.below ub6) tP tPo tM (by omega) tR hro
      have hB := Below.refl w6.heap.size w6
      clear tP tM tG tR tPo tGo hM0 hR0 hM5 hR5 cP cS fP fS oPw o9 hKl hSl hKo hSo hro hw7
      go_wp2_with (first | (go_at_call 27; (with_reducible refine Calls.mono (k1 _ hB) ?_); rintro e wa ⟨rfl, hba⟩; replace hB := hB.trans (hba.mono hB.size)) | (go_at_call 28; (with_reducible refine Calls.mono (k2 _ hB) ?_); rintro e wa ⟨rfl, hba⟩; replace hB := hB.trans (hba.mono hB.size)) | (go_at_call 27; (with_reducible refine Calls.mono (k3 _ hB) ?_); rintro e wa ⟨rfl, hba⟩; replace hB := hB.trans (hba.mono hB.size)) | (go_at_call 28; (with_reducible refine Calls.mono (k4 _ hB) ?_); rintro e wa ⟨rfl, hba⟩; replace hB := hB.trans (hba.mono hB.size)) | (go_at_call 27; (with_reducible refine Calls.mono (k5 _ hB) ?_); rintro e wa ⟨rfl, hba⟩; replace hB := hB.trans (hba.mono hB.size)) | (go_at_call 28; (with_reducible refine Calls.mono (k6 _ hB) ?_); rintro e wa ⟨rfl, hba⟩; replace hB := hB.trans (hba.mono hB.size)))
      go_ret
      exact ⟨rfl, ub6.trans (hB.mono ub6.size)⟩
    · have hml1 := hM5.1
      have hbb0 := hM5.2.2.1.below ((Below.refl w5.heap.size w5).alloc (Nat.le_refl _) (.cells #[] 5))
      have o0 : Own8 (w5.alloc (.cells #[] 5)) w5.heap.size 5 (.slice (some ⟨w5.heap.size, 0, none⟩) 0 0) [] := own8_lit w5 _ (Nat.le_refl _)
      have b0 : Below w5.heap.size w5 (w5.alloc (.cells #[] 5)) := (Below.refl _ _).alloc (Nat.le_refl _) _
      have hXl : (msg ++ [by_]).length = ml + 1 := by simp [hM5.1]
      go_upto_region 8 with (go_at_call 24; (with_reducible refine Calls.mono (hw7 _) ?_); rintro e1 w6 ⟨rfl, hw⟩; obtain rfl := hw.symm; clear hw)
      go_upto_region 22 with (first | (at_builtin; (refine append8g (.tmp 78) (.tmp 79) 28 5 (by rfl) (by rfl) w5.heap.size Tryd.underlying28 info5 (.slice (some ⟨w5.heap.size, 0, none⟩) 0 0) [] (by rfl) ?ho mp ml mc msg (by rfl) hml1 ?hnil ?hby ?hlen ?hB ?_; (case ho => exact o0); (case hnil => exact hM5.2.2.2); (case hby => exact hbb0); (case hlen => simp; omega); (case hB => exact b0.size); rw [List.nil_append, hml1]; intro sp1 cap1 w7 o1 b7 g7)) | (at_builtin; (refine append8g (.tmp 80) (.tmp 82) 28 5 (by rfl) (by rfl) w5.heap.size Tryd.underlying28 info5 (.slice sp1 ml cap1) msg (by rfl) ?ho2 (some ⟨w7.heap.size, 0, none⟩) 1 1 [by_] (by rfl) rfl ?hnil2 ?hby2 ?hlen2 ?hB2 ?_; (case ho2 => exact o1.alloc (.cells (v8 [by_]) 5)); (case hnil2 => exact (fun h => by cases h)); (case hby2 => exact bytes_lit w7 [by_]); (case hlen2 => omega); (case hB2 => exact ((b0.trans b7).alloc (by have := (b0.trans b7).size; omega) (.cells (v8 [by_]) 5)).size); rw [hXl]; intro spX cpX w6 oX b6 g6)))
      have bX := ((b0.trans b7).alloc (by have := (b0.trans b7).size; omega) (.cells (v8 [by_]) 5)).trans b6
      have ub6 := ub.trans (bX.mono hub)
      have tR := hR5.below bX (Nat.le_refl _)
      have tP := (oPw.below bX (Nat.le_refl _)).sl hKl
      have tPo := hKo
      have tG := (o9.below bX (Nat.le_refl _)).sl hSl
      have tGo := hSo
      have tM := oX.sl hXl
      clear o0 b0 hbb0 o1 b7 b6 g6 g7 bX
      generalize (msg ++ [by_]) = LST at *
      obtain ⟨za, k1, k2⟩ := pair_chk S hS (KEY) (LST) (SIG) (some ⟨gP, 0, none⟩) (spX) (some ⟨gS, 0, none⟩) (56) (cpP) (ml + 1) (cpX) (4332) (cap9) w6 (hL.below ub6) tP tPo tM (by omega) tG tGo
      obtain ⟨zb, k3, k4⟩ := pair_chk S hS raw (LST) (SIG) rp (spX) (some ⟨gS, 0, none⟩) rl rc (ml + 1) (cpX) (4332) (cap9) w6 (hL.below ub6) tR hro tM (by omega) tG tGo
      obtain ⟨zc, k5, k6⟩ := pair_chk S hS (KEY) (LST) raw (some ⟨gP, 0, none⟩) (spX) rp (56) (cpP) (ml + 1) (cpX) rl rc w6 (hL.below ub6) tP tPo tM (by omega) tR hro
      have hB := Below.refl w6.heap.size w6
      clear tP tM tG tR tPo tGo hM0 hR0 hM5 hR5 cP cS fP fS oPw o9 hKl hSl hKo hSo hro hw7
      go_wp2_with (first | (go_at_call 27; (with_reducible refine Calls.mono (k1 _ hB) ?_); rintro e wa ⟨rfl, hba⟩; replace hB := hB.trans (hba.mono hB.size)) | (go_at_call 28; (with_reducible refine Calls.mono (k2 _ hB) ?_); rintro e wa ⟨rfl, hba⟩; replace hB := hB.trans (hba.mono hB.size)) | (go_at_call 27; (with_reducible refine Calls.mono (k3 _ hB) ?_); rintro e wa ⟨rfl, hba⟩; replace hB := hB.trans (hba.mono hB.size)) | (go_at_call 28; (with_reducible refine Calls.mono (k4 _ hB) ?_); rintro e wa ⟨rfl, hba⟩; replace hB := hB.trans (hba.mono hB.size)) | (go_at_call 27; (with_reducible refine Calls.mono (k5 _ hB) ?_); rintro e wa ⟨rfl, hba⟩; replace hB := hB.trans (hba.mono hB.size)) | (go_at_call 28; (with_reducible refine Calls.mono (k6 _ hB) ?_); rintro e wa ⟨rfl, hba⟩; replace hB := hB.trans (hba.mono hB.size)))
      go_ret
      exact ⟨rfl, ub6.trans (hB.mono ub6.size)⟩
    · have hkI : (ks : Int) ≤ 4332 := by omega
      have hkc : (ks : Int) ≤ (cap9 : Int) := by omega
      go_upto_region 8 with (go_at_call 24; (with_reducible refine Calls.mono (hw7 _) ?_); rintro e1 w6 ⟨rfl, hw⟩; obtain rfl := hw.symm; clear hw)
      go_upto_region 22 with fail
      have ub6 := ub
      have tM := hM5
      have tR := hR5
      have tP := oPw.sl hKl
      have tPo := hKo
      have tG : Sl w5 (some ⟨gS, 0, none⟩) ks cap9 (SIG.take ks) := ⟨by rw [List.length_take]; omega, by omega, o9.bytes.take ks, fun h => by cases h⟩
      have tGo : Oct (SIG.take ks) := fun x hx => hSo x (List.mem_of_mem_take hx)
      generalize SIG.take ks = LST at *
      generalize w5 = w6 at *
      obtain ⟨za, k1, k2⟩ := pair_chk S hS (KEY) (msg) (LST) (some ⟨gP, 0, none⟩) (mp) (some ⟨gS, 0, none⟩) (56) (cpP) (ml) (mc) (ks) (cap9) w6 (hL.below ub6) tP tPo tM (by omega) tG tGo
      obtain ⟨zb, k3, k4⟩ := pair_chk S hS raw (msg) (LST) rp (mp) (some ⟨gS, 0, none⟩) rl rc (ml) (mc) (ks) (cap9) w6 (hL.below ub6) tR hro tM (by omega) tG tGo
      obtain ⟨zc, k5, k6⟩ := pair_chk S hS (KEY) (msg) raw (some ⟨gP, 0, none⟩) (mp) rp (56) (cpP) (ml) (mc) rl rc w6 (hL.below ub6) tP tPo tM (by omega) tR hro
      have hB := Below.refl w6.heap.size w6
      clear tP tM tG tR tPo tGo hM0 hR0 hM5 hR5 cP cS fP fS oPw o9 hKl hSl hKo hSo hro hw7
      go_wp2_with (first | (go_at_call 27; (with_reducible refine Calls.mono (k1 _ hB) ?_); rintro e wa ⟨rfl, hba⟩; replace hB := hB.trans (hba.mono hB.size)) | (go_at_call 28; (with_reducible refine Calls.mono (k2 _ hB) ?_); rintro e wa ⟨rfl, hba⟩; replace hB := hB.trans (hba.mono hB.size)) | (go_at_call 27; (with_reducible refine Calls.mono (k3 _ hB) ?_); rintro e wa ⟨rfl, hba⟩; replace hB := hB.trans (hba.mono hB.size)) | (go_at_call 28; (with_reducible refine Calls.mono (k4 _ hB) ?_); rintro e wa ⟨rfl, hba⟩; replace hB := hB.trans (hba.mono hB.size)) | (go_at_call 27; (with_reducible refine Calls.mono (k5 _ hB) ?_); rintro e wa ⟨rfl, hba⟩; replace hB := hB.trans (hba.mono hB.size)) | (go_at_call 28; (with_reducible refine Calls.mono (k6 _ hB) ?_); rintro e wa ⟨rfl, hba⟩; replace hB := hB.trans (hba.mono hB.size)))
      go_ret
      exact ⟨rfl, ub6.trans (hB.mono ub6.size)⟩
    · have hkI : (kp : Int) ≤ 56 := by omega
      have hkc : (kp : Int) ≤ (cpP : Int) := by omega
      go_upto_region 8 with (go_at_call 24; (with_reducible refine Calls.mono (hw7 _) ?_); rintro e1 w6 ⟨rfl, hw⟩; obtain rfl := hw.symm; clear hw)
      go_upto_region 22 with fail
      have ub6 := ub
      have tM := hM5
      have tR := hR5
      have tG := o9.sl hSl
      have tGo := hSo
      have tP : Sl w5 (some ⟨gP, 0, none⟩) kp cpP (KEY.take kp) := ⟨by rw [List.length_take]; omega, by omega, oPw.bytes.take kp, fun h => by cases h⟩
      have tPo : Oct (KEY.take kp) := fun x hx => hKo x (List.mem_of_mem_take hx)
      generalize KEY.take kp = LST at *
      generalize w5 = w6 at *
      obtain ⟨za, k1, k2⟩ := pair_chk S hS (LST) (msg) (SIG) (some ⟨gP, 0, none⟩) (mp) (some ⟨gS, 0, none⟩) (kp) (cpP) (ml) (mc) (4332) (cap9) w6 (hL.below ub6) tP tPo tM (by omega) tG tGo
      obtain ⟨zb, k3, k4⟩ := pair_chk S hS raw (msg) (SIG) rp (mp) (some ⟨gS, 0, none⟩) rl rc (ml) (mc) (4332) (cap9) w6 (hL.below ub6) tR hro tM (by omega) tG tGo
      obtain ⟨zc, k5, k6⟩ := pair_chk S hS (LST) (msg) raw (some ⟨gP, 0, none⟩) (mp) rp (kp) (cpP) (ml) (mc) rl rc w6 (hL.below ub6) tP tPo tM (by omega) tR hro
      have hB := Below.refl w6.heap.size w6
      clear tP tM tG tR tPo tGo hM0 hR0 hM5 hR5 cP cS fP fS oPw o9 hKl hSl hKo hSo hro hw7
      go_wp2_with (first | (go_at_call 27; (with_reducible refine Calls.mono (k1 _ hB) ?_); rintro e wa ⟨rfl, hba⟩; replace hB := hB.trans (hba.mono hB.size)) | (go_at_call 28; (with_reducible refine Calls.mono (k2 _ hB) ?_); rintro e wa ⟨rfl, hba⟩; replace hB := hB.trans (hba.mono hB.size)) | (go_at_call 27; (with_reducible refine Calls.mono (k3 _ hB) ?_); rintro e wa ⟨rfl, hba⟩; replace hB := hB.trans (hba.mono hB.size)) | (go_at_call 28; (with_reducible refine Calls.mono (k4 _ hB) ?_); rintro e wa ⟨rfl, hba⟩; replace hB := hB.trans (hba.mono hB.size)) | (go_at_call 27; (with_reducible refine Calls.mono (k5 _ hB) ?_); rintro e wa ⟨rfl, hba⟩; replace hB := hB.trans (hba.mono hB.size)) | (go_at_call 28; (with_reducible refine Calls.mono (k6 _ hB) ?_); rintro e wa ⟨rfl, hba⟩; replace hB := hB.trans (hba.mono hB.size)))
      go_ret
      exact ⟨rfl, ub6.trans (hB.mono ub6.size)⟩
    · have hrl1 := hR5.1
      have hbb0 := o9.bytes.below ((Below.refl w5.heap.size w5).alloc (Nat.le_refl _) (.cells #[] 5))
      have o0 : Own8 (w5.alloc (.cells #[] 5)) w5.heap.size 5 (.slice (some ⟨w5.heap.size, 0, none⟩) 0 0) [] := own8_lit w5 _ (Nat.le_refl _)
      have b0 : Below w5.heap.size w5 (w5.alloc (.cells #[] 5)) := (Below.refl _ _).alloc (Nat.le_refl _) _
      have hXl : (SIG ++ raw).length = 4332 + rl := by simp [hSl, hR5.1]
      go_upto_region 8 with (go_at_call 24; (with_reducible refine Calls.mono (hw7 _) ?_); rintro e1 w6 ⟨rfl, hw⟩; obtain rfl := hw.symm; clear hw)
      go_upto_region 22 with (first | (at_builtin; (refine append8g (.tmp 102) (.tmp 103) 28 5 (by rfl) (by rfl) w5.heap.size Tryd.underlying28 info5 (.slice (some ⟨w5.heap.size, 0, none⟩) 0 0) [] (by rfl) ?ho (some ⟨gS, 0, none⟩) 4332 cap9 SIG (by rfl) hSl ?hnil ?hby ?hlen ?hB ?_; (case ho => exact o0); (case hnil => exact (fun h => by cases h)); (case hby => exact hbb0); (case hlen => simp only [List.length_nil]; omega); (case hB => exact b0.size); rw [List.nil_append, hSl]; intro sp1 cap1 w7 o1 b7 g7)) | (at_builtin; (refine append8g (.tmp 104) (.tmp 105) 28 5 (by rfl) (by rfl) w5.heap.size Tryd.underlying28 info5 (.slice sp1 4332 cap1) SIG (by rfl) ?ho2 rp rl rc raw (by rfl) hrl1 ?hnil2 ?hby2 ?hlen2 ?hB2 ?_; (case ho2 => exact o1); (case hnil2 => exact hR5.2.2.2); (case hby2 => exact hR5.2.2.1.below (b0.trans b7)); (case hlen2 => omega); (case hB2 => exact (b0.trans b7).size); rw [hXl]; intro spX cpX w6 oX b6 g6)))
      have bX := (b0.trans b7).trans b6
      have ub6 := ub.trans (bX.mono hub)
      have tR := hR5.below bX (Nat.le_refl _)
      have tP := (oPw.below bX (Nat.le_refl _)).sl hKl
      have tPo := hKo
      have tM := hM5.below bX (Nat.le_refl _)
      have tG := oX.sl hXl
      have tGo : Oct (SIG ++ raw) := oct_app hSo hro
      clear o0 b0 hbb0 o1 b7 b6 g6 g7 bX
      generalize (SIG ++ raw) = LST at *
      obtain ⟨za, k1, k2⟩ := pair_chk S hS (KEY) (msg) (LST) (some ⟨gP, 0, none⟩) (mp) (spX) (56) (cpP) (ml) (mc) (4332 + rl) (cpX) w6 (hL.below ub6) tP tPo tM (by omega) tG tGo
      obtain ⟨zb, k3, k4⟩ := pair_chk S hS raw (msg) (LST) rp (mp) (spX) rl rc (ml) (mc) (4332 + rl) (cpX) w6 (hL.below ub6) tR hro tM (by omega) tG tGo
      obtain ⟨zc, k5, k6⟩ := pair_chk S hS (KEY) (msg) raw (some ⟨gP, 0, none⟩) (mp) rp (56) (cpP) (ml) (mc) rl rc w6 (hL.below ub6) tP tPo tM (by omega) tR hro
      have hB := Below.refl w6.heap.size w6
      clear tP tM tG tR tPo tGo hM0 hR0 hM5 hR5 cP cS fP fS oPw o9 hKl hSl hKo hSo hro hw7
      go_wp2_with (first | (go_at_call 27; (with_reducible refine Calls.mono (k1 _ hB) ?_); rintro e wa ⟨rfl, hba⟩; replace hB := hB.trans (hba.mono hB.size)) | (go_at_call 28; (with_reducible refine Calls.mono (k2 _ hB) ?_); rintro e wa ⟨rfl, hba⟩; replace hB := hB.trans (hba.mono hB.size)) | (go_at_call 27; (with_reducible refine Calls.mono (k3 _ hB) ?_); rintro e wa ⟨rfl, hba⟩; replace hB := hB.trans (hba.mono hB.size)) | (go_at_call 28; (with_reducible refine Calls.mono (k4 _ hB) ?_); rintro e wa ⟨rfl, hba⟩; replace hB := hB.trans (hba.mono hB.size)) | (go_at_call 27; (with_reducible refine Calls.mono (k5 _ hB) ?_); rintro e wa ⟨rfl, hba⟩; replace hB := hB.trans (hba.mono hB.size)) | (go_at_call 28; (with_reducible refine Calls.mono (k6 _ hB) ?_); rintro e wa ⟨rfl, hba⟩; replace hB := hB.trans (hba.mono hB.size)))
      go_ret
      exact ⟨rfl, ub6.trans (hB.mono ub6.size)⟩
    · obtain ⟨kj, hkj⟩ : ∃ kj, 4296 + kt = kj := ⟨_, rfl⟩
      have hkjI : (4296 : Int) + (kt : Int) = (kj : Int) := by omega
      have hkI : (kj : Int) < 4332 := by omega
      have hkn : kj < 4332 := by omega
      clear hkj
      have ck := cS kj (by omega)
      have fk := fS kj
      go_upto_region 8 with (go_at_call 24; (with_reducible refine Calls.mono (hw7 _) ?_); rintro e1 w6 ⟨rfl, hw⟩; obtain rfl := hw.symm; clear hw)
      go_upto_region 22 with fail
      obtain ⟨v, hv⟩ : ∃ v, (gi SIG kj + by_) % 256 = v := ⟨_, rfl⟩
      rw [hv]
      have hvr : 0 ≤ v ∧ v < 256 := by omega
      clear hv ck fk
      have ub6 := ub.setCell (p := ⟨gS, kj, none⟩) (by show w0.heap.size ≤ gS; omega) (.int .u8 v)
      have oW := own8_set (k := kj) o9 v
      have oO := own8_off oPw ⟨gS, kj, none⟩ (.int .u8 v) (fun j hj => by cases hj; show gP ≠ gS; omega)
      have tM := hM0.below ub6 (Nat.le_refl _)
      have tR := hR0.below ub6 (Nat.le_refl _)
      change Code.wp _ _ _ _ (w5.setCell ⟨gS, kj, none⟩ (.int .u8 v))
      generalize w5.setCell ⟨gS, kj, none⟩ (.int .u8 v) = w6 at *
      have hlw : (SIG.set kj v).length = 4332 := by simpa using hSl
      have how6 := oct_set (k := kj) hSo hvr
      have tG := oW.sl hlw
      have tGo := how6
      have tP := oO.sl hKl
      have tPo := hKo
      clear oW oO
      generalize SIG.set kj v = LST at *
      obtain ⟨za, k1, k2⟩ := pair_chk S hS (KEY) (msg) (LST) (some ⟨gP, 0, none⟩) (mp) (some ⟨gS, 0, none⟩) (56) (cpP) (ml) (mc) (4332) (cap9) w6 (hL.below ub6) tP tPo tM (by omega) tG tGo
      obtain ⟨zb, k3, k4⟩ := pair_chk S hS raw (msg) (LST) rp (mp) (some ⟨gS, 0, none⟩) rl rc (ml) (mc) (4332) (cap9) w6 (hL.below ub6) tR hro tM (by omega) tG tGo
      obtain ⟨zc, k5, k6⟩ := pair_chk S hS (KEY) (msg) raw (some ⟨gP, 0, none⟩) (mp) rp (56) (cpP) (ml) (mc) rl rc w6 (hL.below ub6) tP tPo tM (by omega) tR hro
      have hB := Below.refl w6.heap.size w6
      clear tP tM tG tR tPo tGo hM0 hR0 hM5 hR5 cP cS fP fS oPw o9 hKl hSl hKo hSo hro hw7
      go_wp2_with (first | (go_at_call 27; (with_reducible refine Calls.mono (k1 _ hB) ?_); rintro e wa ⟨rfl, hba⟩; replace hB := hB.trans (hba.mono hB.size)) | (go_at_call 28; (with_reducible refine Calls.mono (k2 _ hB) ?_); rintro e wa ⟨rfl, hba⟩; replace hB := hB.trans (hba.mono hB.size)) | (go_at_call 27; (with_reducible refine Calls.mono (k3 _ hB) ?_); rintro e wa ⟨rfl, hba⟩; replace hB := hB.trans (hba.mono hB.size)) | (go_at_call 28; (with_reducible refine Calls.mono (k4 _ hB) ?_); rintro e wa ⟨rfl, hba⟩; replace hB := hB.trans (hba.mono hB.size)) | (go_at_call 27; (with_reducible refine Calls.mono (k5 _ hB) ?_); rintro e wa ⟨rfl, hba⟩; replace hB := hB.trans (hba.mono hB.size)) | (go_at_call 28; (with_reducible refine Calls.mono (k6 _ hB) ?_); rintro e wa ⟨rfl, hba⟩; replace hB := hB.trans (hba.mono hB.size)))
      go_ret
      exact ⟨rfl, ub6.trans (hB.mono ub6.size)⟩
end Go.Proofs.YtoebnkepeledmaaDoor
