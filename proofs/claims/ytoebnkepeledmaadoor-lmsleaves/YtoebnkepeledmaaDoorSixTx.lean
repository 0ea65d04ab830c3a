/- Signatures of lms: leaves that there are none of; a leaf's signature is right by its key; LmsSigns, walked. -/
import Derived.Test.YtoebnkepeledmaaDoorSixSx
import Derived.Test.YtoebnkepeledmaaDoorGl
import Derived.Test.YtoebnkepeledmaaDoorLmsTx
import Derived.Test.YtoebnkepeledmaaDoorLmsUx
import Derived.Outline
namespace Go.Proofs.YtoebnkepeledmaaDoor
open Go Go.RowKit

theorem own_room2 {w : World} {B : Nat} {e : TypeId} {sp : Option Addr} {n cap : Nat} {l : List Int} (h : Own8 w B e (.slice sp n cap) l) (hp : 0 < l.length) : n ≤ cap := by
  obtain ⟨_, _, _, h1, _⟩ := h.row hp
  exact h1
theorem hash_oct {S : List Int → List Int} (h : Hash S) (l : List Int) : Oct (S l) := by subst h; exact all_idN _ 8
set_option maxRecDepth 20000 in
set_option maxHeartbeats 2000000 in
theorem sixSign_bad1 (nm seed : List Int) (q : Int) (mp : Option Addr) (ml mc : Nat) (w0 : World) (hq : ¬ (0 ≤ q ∧ q < 2)) :
    Calls Tryd.prog 26 #[.agg (v8 nm), .agg (v8 seed), .int .i64 1, .int .i64 q, .slice mp ml mc] w0 fun e w' => e = .returned (.tuple #[.slice none 0 0, .int .i64 13]) ∧ Below w0.heap.size w0 w' := by
  have b1 : Below w0.heap.size w0 (World.alloc (World.alloc w0 (.cells (v8 nm) 22)) (.cells (v8 seed) 24)) := ((Below.refl _ _).alloc (Nat.le_refl _) _).alloc (by simp) _
  by_cases h1 : q < 0
  · have h1' : decide (q < 0) = true := decide_eq_true h1
    go_enter Tryd.func26, Tryd.ntmps26
    go_wp2
    go_ret2
    exact ⟨rfl, b1⟩
  · have h1' : decide (q < 0) = false := decide_eq_false h1
    have h2' : decide (q ≥ 2) = true := decide_eq_true (by omega)
    go_enter Tryd.func26, Tryd.ntmps26
    go_wp2
    go_ret2
    exact ⟨rfl, b1⟩
set_option maxRecDepth 20000 in
set_option maxHeartbeats 2000000 in
theorem lSign_bad1 (nm seed : List Int) (q : Int) (mp : Option Addr) (ml mc : Nat) (w0 : World) (hq : ¬ (0 ≤ q ∧ q < 2)) :
    Calls Tryd.prog 25 #[.agg (v8 nm), .agg (v8 seed), .int .i64 1, .int .i64 q, .slice mp ml mc] w0 fun e w' => e = .returned (.tuple #[.slice none 0 0, .int .i64 13]) ∧ Below w0.heap.size w0 w' := by
  have b1 : Below w0.heap.size w0 (World.alloc (World.alloc w0 (.cells (v8 nm) 22)) (.cells (v8 seed) 24)) := ((Below.refl _ _).alloc (Nat.le_refl _) _).alloc (by simp) _
  have hih : ∀ wx, Calls Tryd.prog 44 #[.int .i64 1] wx fun e w' => e = .returned (.bool true) ∧ w' = wx := fun wx => isHeight_any 1 wx
  have hlv : ∀ wx, Calls Tryd.prog 49 #[.int .i64 1] wx fun e w' => e = .returned (.int .i64 2) ∧ w' = wx := fun wx => leaves_any 1 wx (by decide) (by decide)
  by_cases h1 : q < 0
  · have h1' : decide (q < 0) = true := decide_eq_true h1
    go_enter Tryd.func25, Tryd.ntmps25
    go_wp2_with (first | (go_at_call 44; (with_reducible refine Calls.mono (hih _) ?_); rintro e w2 ⟨rfl, hw⟩; obtain rfl := hw.symm; clear hw) | (go_at_call 49; (with_reducible refine Calls.mono (hlv _) ?_); rintro e w2 ⟨rfl, hw⟩; obtain rfl := hw.symm; clear hw))
    go_ret2
    exact ⟨rfl, b1⟩
  · have h1' : decide (q < 0) = false := decide_eq_false h1
    have h2' : decide (q ≥ 2) = true := decide_eq_true (by omega)
    go_enter Tryd.func25, Tryd.ntmps25
    go_wp2_with (first | (go_at_call 44; (with_reducible refine Calls.mono (hih _) ?_); rintro e w2 ⟨rfl, hw⟩; obtain rfl := hw.symm; clear hw) | (go_at_call 49; (with_reducible refine Calls.mono (hlv _) ?_); rintro e w2 ⟨rfl, hw⟩; obtain rfl := hw.symm; clear hw))
    go_ret2
    exact ⟨rfl, b1⟩
set_option maxRecDepth 20000 in
set_option maxHeartbeats 2000000 in
theorem sixSign_bad2 (nm seed : List Int) (q : Int) (mp : Option Addr) (ml mc : Nat) (w0 : World) (hq : ¬ (0 ≤ q ∧ q < 4)) :
    Calls Tryd.prog 26 #[.agg (v8 nm), .agg (v8 seed), .int .i64 2, .int .i64 q, .slice mp ml mc] w0 fun e w' => e = .returned (.tuple #[.slice none 0 0, .int .i64 13]) ∧ Below w0.heap.size w0 w' := by
  have b1 : Below w0.heap.size w0 (World.alloc (World.alloc w0 (.cells (v8 nm) 22)) (.cells (v8 seed) 24)) := ((Below.refl _ _).alloc (Nat.le_refl _) _).alloc (by simp) _
  by_cases h1 : q < 0
  · have h1' : decide (q < 0) = true := decide_eq_true h1
    go_enter Tryd.func26, Tryd.ntmps26
    go_wp2
    go_ret2
    exact ⟨rfl, b1⟩
  · have h1' : decide (q < 0) = false := decide_eq_false h1
    have h2' : decide (q ≥ 4) = true := decide_eq_true (by omega)
    go_enter Tryd.func26, Tryd.ntmps26
    go_wp2
    go_ret2
    exact ⟨rfl, b1⟩
set_option maxRecDepth 20000 in
set_option maxHeartbeats 2000000 in
theorem lSign_bad2 (nm seed : List Int) (q : Int) (mp : Option Addr) (ml mc : Nat) (w0 : World) (hq : ¬ (0 ≤ q ∧ q < 4)) :
    Calls Tryd.prog 25 #[.agg (v8 nm), .agg (v8 seed), .int .i64 2, .int .i64 q, .slice mp ml mc] w0 fun e w' => e = .returned (.tuple #[.slice none 0 0, .int .i64 13]) ∧ Below w0.heap.size w0 w' := by
  have b1 : Below w0.heap.size w0 (World.alloc (World.alloc w0 (.cells (v8 nm) 22)) (.cells (v8 seed) 24)) := ((Below.refl _ _).alloc (Nat.le_refl _) _).alloc (by simp) _
  have hih : ∀ wx, Calls Tryd.prog 44 #[.int .i64 2] wx fun e w' => e = .returned (.bool true) ∧ w' = wx := fun wx => isHeight_any 2 wx
  have hlv : ∀ wx, Calls Tryd.prog 49 #[.int .i64 2] wx fun e w' => e = .returned (.int .i64 4) ∧ w' = wx := fun wx => leaves_any 2 wx (by decide) (by decide)
  by_cases h1 : q < 0
  · have h1' : decide (q < 0) = true := decide_eq_true h1
    go_enter Tryd.func25, Tryd.ntmps25
    go_wp2_with (first | (go_at_call 44; (with_reducible refine Calls.mono (hih _) ?_); rintro e w2 ⟨rfl, hw⟩; obtain rfl := hw.symm; clear hw) | (go_at_call 49; (with_reducible refine Calls.mono (hlv _) ?_); rintro e w2 ⟨rfl, hw⟩; obtain rfl := hw.symm; clear hw))
    go_ret2
    exact ⟨rfl, b1⟩
  · have h1' : decide (q < 0) = false := decide_eq_false h1
    have h2' : decide (q ≥ 4) = true := decide_eq_true (by omega)
    go_enter Tryd.func25, Tryd.ntmps25
    go_wp2_with (first | (go_at_call 44; (with_reducible refine Calls.mono (hih _) ?_); rintro e w2 ⟨rfl, hw⟩; obtain rfl := hw.symm; clear hw) | (go_at_call 49; (with_reducible refine Calls.mono (hlv _) ?_); rintro e w2 ⟨rfl, hw⟩; obtain rfl := hw.symm; clear hw))
    go_ret2
    exact ⟨rfl, b1⟩
theorem check_right (S : List Int → List Int) (hS : Hash S) (nm seed msg : List Int) (h q : Nat) (pp mp sp : Option Addr) (pc ml mc sl sc : Nat) (wx : World) (hL : Laid wx) (hn : nm.length = 16) (hnr : Oct nm) (hml : msg.length = ml) (hmm : ml ≤ 17592186044416) (hmb : Bytes wx mp msg) (hpc : 56 ≤ pc) (hsl : sl = 4300 + 32 * h) (hsc : sl ≤ sc) (h1 : 1 ≤ h) (h5 : h ≤ 5) (hq : q < 2 ^ h) (hpb : Bytes wx pp (keyL (h : Int) nm (nodeN S nm seed (2 ^ h) 1))) (hsb : Bytes wx sp (lsigL S nm seed h q msg)) :
    Calls Tryd.prog 27 #[.slice pp 56 pc, .slice mp ml mc, .slice sp sl sc] wx fun e w' => e = .returned (.int .i64 0) ∧ Below wx.heap.size wx w' := by
  have hl : ∀ l, (S l).length = 32 := fun l => hS.len l
  have hOc : ∀ l, Oct (S l) := fun l => hash_oct hS l
  have hTl := nodeN_len hl nm seed (2 ^ h) 1
  have hq32 : q < 4294967296 := by
    have : 2 ^ h ≤ 2 ^ 5 := Nat.pow_le_pow_right (by decide) h5
    omega
  obtain ⟨e1, e2, e3, e4⟩ := sig_parts hl nm seed h q msg h5 hq32
  refine lCheck_ok (keyL (h : Int) nm (nodeN S nm seed (2 ^ h) 1)) pp mp sp 56 pc ml mc sl sc wx (keyL_len hn hTl) hpc hpb (oct_key hnr (oct_node hOc _ _ _ _)) (lsigL S nm seed h q msg) (by rw [lsigL_len hl, hsl]) hsc hsb (oct_lsig hOc nm seed h q msg) h (key_good hn hTl h1 h5) (key_height (by omega)) S hS msg hml hmm hmb hL hsl e2 q e1 hq ?_ ?_
  · rw [e3, sigL_type]
  · rw [key_name hn, e3, back_sig hl, e4, climb_root hl nm seed h q h5 hq, key_top hn hTl]
set_option maxRecDepth 20000 in
set_option maxHeartbeats 2000000 in
theorem signs6_bad1 (S : List Int → List Int) (hS : Hash S) (nm seed : List Int) (hh q : Int) (mp : Option Addr) (ml mc : Nat) (w0 : World) (hL : Laid w0) (hn : nm.length = 16) (hs : seed.length = 32) (hmm : ml ≤ 200) (hwh : hh % 2 = 0) (hq : ¬ (0 ≤ q ∧ q < 2)) :
    Calls Tryd.prog 9 #[.agg (v8 nm), .agg (v8 seed), .int .i64 hh, .int .i64 q, .slice mp ml mc] w0 fun e w' => e = .returned (.bool true) ∧ Below w0.heap.size w0 w' := by
  have hK : ∀ wx, Laid wx → Calls Tryd.prog 21 #[] wx fun e w' => e = .returned (.bool true) ∧ Below wx.heap.size wx w' := fun wx hl => known6_any S hS wx hl
  have hw6 : ∀ wx, Calls Tryd.prog 24 #[.int .i64 hh, .int .i64 2] wx fun e w' => e = .returned (.int .i64 0) ∧ w' = wx := fun wx => by
    have := within6_any hh 2 wx (by omega) (by omega)
    rwa [hwh] at this
  have hPu : ∀ wx, Calls Tryd.prog 23 #[.agg (v8 nm), .agg (v8 seed), .int .i64 1] wx fun e w' => ∃ sp cap, e = .returned (.tuple #[.slice sp 56 cap, .int .i64 0]) ∧ Own8 w' wx.heap.size 5 (.slice sp 56 cap) (keyL ((1 : Nat) : Int) nm (nodeN S nm seed (2 ^ 1) 1)) ∧ Below wx.heap.size wx w' := fun wx => sixPublic_any S hS nm seed 1 wx hn hs (by omega) (by omega)
  have hm2 : decide ((ml : Int) > 200) = false := decide_eq_false (by omega)
  have hA := fun wx => lSign_bad1 nm seed q mp ml mc wx hq
  have hB := fun wx => sixSign_bad1 nm seed q mp ml mc wx hq
  clear hwh
  go_enter Tryd.func9, Tryd.ntmps9
  go_upto_region 1 with fail
  have r0 : Row (World.alloc (World.alloc w0 (.cells (v8 nm) 22)) (.cells (v8 seed) 24)) w0.heap.size 22 (v8 nm) := (Row.new _ _ _).alloc _
  have r1 : Row (World.alloc (World.alloc w0 (.cells (v8 nm) 22)) (.cells (v8 seed) 24)) (w0.heap.size + 1) 24 (v8 seed) := Row.newAt _ _ _ _ (by simp)
  have b1 : Below w0.heap.size w0 (World.alloc (World.alloc w0 (.cells (v8 nm) 22)) (.cells (v8 seed) 24)) := ((Below.refl _ _).alloc (Nat.le_refl _) _).alloc (by simp) _
  change Code.wp _ _ _ _ ((World.alloc (World.alloc w0 (.cells (v8 nm) 22)) (.cells (v8 seed) 24)))
  generalize (World.alloc (World.alloc w0 (.cells (v8 nm) 22)) (.cells (v8 seed) 24)) = w1 at r0 r1 b1 ⊢
  go_upto_region 6 with (first | (go_at_call 21; (with_reducible refine Calls.mono (hK _ (hL.below b1)) ?_); rintro e w2 ⟨rfl, hb2⟩; have p0 := r0.below hb2 r0.lt; have p1 := r1.below hb2 r1.lt; have pb := b1.trans (hb2.mono b1.size)) | (go_at_call 24; (with_reducible refine Calls.mono (hw6 _) ?_); rintro e w9 ⟨rfl, hw⟩; obtain rfl := hw.symm; clear hw))
  clear r0 r1 b1 hb2 hK hw6
  go_upto_region 7 with (first | (refine wpList_load_row (by rfl) 22 (.tmp 5) (by rfl) (w0.heap.size) (by rfl) 22 (v8 nm) (0, 0) _ p0 Tryd.underlying22 rfl (name_info hn) ?_) | (refine wpList_load_row (by rfl) 24 (.tmp 6) (by rfl) (w0.heap.size + 1) (by rfl) 24 (v8 seed) (0, 0) _ p1 Tryd.underlying24 rfl (id_info hs) ?_) | (go_at_call 25; (with_reducible refine Calls.mono (hA _) ?_); rintro e w3 ⟨rfl, hb3⟩))
  have q0 := p0.below hb3 p0.lt
  have q1 := p1.below hb3 p1.lt
  have qb := pb.trans (hb3.mono pb.size)
  clear p0 p1 pb hb3 hA
  go_upto_region 8 with (first | (refine wpList_load_row (by rfl) 22 (.tmp 5) (by rfl) (w0.heap.size) (by rfl) 22 (v8 nm) (0, 0) _ q0 Tryd.underlying22 rfl (name_info hn) ?_) | (refine wpList_load_row (by rfl) 24 (.tmp 6) (by rfl) (w0.heap.size + 1) (by rfl) 24 (v8 seed) (0, 0) _ q1 Tryd.underlying24 rfl (id_info hs) ?_) | (go_at_call 26; (with_reducible refine Calls.mono (hB _) ?_); rintro e w4 ⟨rfl, hb4⟩))
  have x0 := q0.below hb4 q0.lt
  have x1 := q1.below hb4 q1.lt
  have xb := qb.trans (hb4.mono qb.size)
  clear q0 q1 qb hb4 hB
  have hcn : ∀ wx, (convert 28 9 (.slice none 0 0)).run Tryd.prog wx = .ok (.string ByteArray.empty) wx := fun wx => by
    rw [run_convert_bytes_string wx 28 9 5 none 0 0 Tryd.underlying28 Tryd.underlying5 Tryd.underlying9]; rfl
  have hcw := hcn w4
  have eR : (ByteArray.empty.toList != ByteArray.empty.toList) = false := by simp
  go_wp2_with (first | (refine wpList_load_row (by rfl) 22 (.tmp 5) (by rfl) (w0.heap.size) (by rfl) 22 (v8 nm) (0, 0) _ x0 Tryd.underlying22 rfl (name_info hn) ?_) | (refine wpList_load_row (by rfl) 24 (.tmp 6) (by rfl) (w0.heap.size + 1) (by rfl) 24 (v8 seed) (0, 0) _ x1 Tryd.underlying24 rfl (id_info hs) ?_) | (go_at_call 23; (with_reducible refine Calls.mono (hPu _) ?_); rintro e w5 ⟨sp5, cap5, rfl, o5, hb5⟩))
  go_ret
  exact ⟨rfl, xb.trans (hb5.mono xb.size)⟩
set_option maxRecDepth 20000 in
set_option maxHeartbeats 2000000 in
theorem signs6_ok1 (S : List Int → List Int) (hS : Hash S) (nm seed msg : List Int) (hh : Int) (q : Nat) (mp : Option Addr) (ml mc : Nat) (w0 : World) (hL : Laid w0) (hn : nm.length = 16) (hs : seed.length = 32) (hnr : Oct nm) (hml : msg.length = ml) (hmn : mp = none → mc = 0 ∧ ml = 0) (hmm : ml ≤ 200) (hmb : Bytes w0 mp msg) (hwh : hh % 2 = 0) (hq : q < 2) :
    Calls Tryd.prog 9 #[.agg (v8 nm), .agg (v8 seed), .int .i64 hh, .int .i64 (q : Int), .slice mp ml mc] w0 fun e w' => e = .returned (.bool true) ∧ Below w0.heap.size w0 w' := by
  have hK : ∀ wx, Laid wx → Calls Tryd.prog 21 #[] wx fun e w' => e = .returned (.bool true) ∧ Below wx.heap.size wx w' := fun wx hl => known6_any S hS wx hl
  have hw6 : ∀ wx, Calls Tryd.prog 24 #[.int .i64 hh, .int .i64 2] wx fun e w' => e = .returned (.int .i64 0) ∧ w' = wx := fun wx => by
    have := within6_any hh 2 wx (by omega) (by omega)
    rwa [hwh] at this
  have hPu : ∀ wx, Calls Tryd.prog 23 #[.agg (v8 nm), .agg (v8 seed), .int .i64 1] wx fun e w' => ∃ sp cap, e = .returned (.tuple #[.slice sp 56 cap, .int .i64 0]) ∧ Own8 w' wx.heap.size 5 (.slice sp 56 cap) (keyL ((1 : Nat) : Int) nm (nodeN S nm seed (2 ^ 1) 1)) ∧ Below wx.heap.size wx w' := fun wx => sixPublic_any S hS nm seed 1 wx hn hs (by omega) (by omega)
  have hm2 : decide ((ml : Int) > 200) = false := decide_eq_false (by omega)
  have hA : ∀ wx, Laid wx → Bytes wx mp msg → Calls Tryd.prog 25 #[.agg (v8 nm), .agg (v8 seed), .int .i64 1, .int .i64 (q : Int), .slice mp ml mc] wx fun e w' => ∃ g, e = .returned (.tuple #[.slice (some ⟨g, 0, none⟩) 4332 4332, .int .i64 0]) ∧ wx.heap.size ≤ g ∧ Row w' g 5 (v8 (lsigL S nm seed 1 q msg)) ∧ Below wx.heap.size wx w' := fun wx hl hb => lSign_any S hS nm seed msg 1 q mp ml mc wx hl hn hs hml (by omega) hb (by omega) (by omega) hq
  have hB : ∀ wx, Bytes wx mp msg → Calls Tryd.prog 26 #[.agg (v8 nm), .agg (v8 seed), .int .i64 1, .int .i64 (q : Int), .slice mp ml mc] wx fun e w' => ∃ sp cap, e = .returned (.tuple #[.slice sp 4332 cap, .int .i64 0]) ∧ Own8 w' wx.heap.size 5 (.slice sp 4332 cap) (lsigL S nm seed 1 q msg) ∧ Below wx.heap.size wx w' := fun wx hb => sixSign_any S hS nm seed msg 1 q mp ml mc wx hn hs hml hmn (by omega) hb (by omega) (by omega) hq
  have hC := fun wx pp sp pc sc hl h1 h2 h3 h4 h5 => check_right S hS nm seed msg 1 q pp mp sp pc ml mc 4332 sc wx hl hn hnr hml (by omega) h1 h2 rfl h3 (by omega) (by omega) hq h4 h5
  have hSl : (lsigL S nm seed 1 q msg).length = 4332 := lsigL_len (fun l => hS.len l) nm seed 1 q msg
  have hKl : (keyL ((1 : Nat) : Int) nm (nodeN S nm seed (2 ^ 1) 1)).length = 56 := keyL_len hn (nodeN_len (fun l => hS.len l) _ _ _ _)
  generalize lsigL S nm seed 1 q msg = SIG at *
  generalize keyL ((1 : Nat) : Int) nm (nodeN S nm seed (2 ^ 1) 1) = KEY at *
  have hcv : ∀ sp cap wx, Bytes wx sp SIG → (convert 28 9 (.slice sp 4332 cap)).run Tryd.prog wx = .ok (.string (strOfNums SIG)) wx := fun sp cap wx hb => by
    obtain ⟨b', o', e, hc⟩ := hb (by omega)
    have h := run_convert_bytes_arg (P := Tryd.prog) wx 28 5 Tryd.underlying28 Tryd.underlying5 b' o' 4332 cap SIG hSl (fun i hi => by rw [hc i (by omega)]; rfl) 9 Tryd.underlying9
    rw [e, h]
  clear hwh
  go_enter Tryd.func9, Tryd.ntmps9
  go_upto_region 1 with fail
  have r0 : Row (World.alloc (World.alloc w0 (.cells (v8 nm) 22)) (.cells (v8 seed) 24)) w0.heap.size 22 (v8 nm) := (Row.new _ _ _).alloc _
  have r1 : Row (World.alloc (World.alloc w0 (.cells (v8 nm) 22)) (.cells (v8 seed) 24)) (w0.heap.size + 1) 24 (v8 seed) := Row.newAt _ _ _ _ (by simp)
  have b1 : Below w0.heap.size w0 (World.alloc (World.alloc w0 (.cells (v8 nm) 22)) (.cells (v8 seed) 24)) := ((Below.refl _ _).alloc (Nat.le_refl _) _).alloc (by simp) _
  change Code.wp _ _ _ _ ((World.alloc (World.alloc w0 (.cells (v8 nm) 22)) (.cells (v8 seed) 24)))
  generalize (World.alloc (World.alloc w0 (.cells (v8 nm) 22)) (.cells (v8 seed) 24)) = w1 at r0 r1 b1 ⊢
  go_upto_region 6 with (first | (go_at_call 21; (with_reducible refine Calls.mono (hK _ (hL.below b1)) ?_); rintro e w2 ⟨rfl, hb2⟩; have p0 := r0.below hb2 r0.lt; have p1 := r1.below hb2 r1.lt; have pb := b1.trans (hb2.mono b1.size)) | (go_at_call 24; (with_reducible refine Calls.mono (hw6 _) ?_); rintro e w9 ⟨rfl, hw⟩; obtain rfl := hw.symm; clear hw))
  clear r0 r1 b1 hb2 hK hw6
  go_upto_region 7 with (first | (refine wpList_load_row (by rfl) 22 (.tmp 5) (by rfl) (w0.heap.size) (by rfl) 22 (v8 nm) (0, 0) _ p0 Tryd.underlying22 rfl (name_info hn) ?_) | (refine wpList_load_row (by rfl) 24 (.tmp 6) (by rfl) (w0.heap.size + 1) (by rfl) 24 (v8 seed) (0, 0) _ p1 Tryd.underlying24 rfl (id_info hs) ?_) | (go_at_call 25; (with_reducible refine Calls.mono (hA _ (hL.below pb) (hmb.below pb)) ?_); rintro e w3 ⟨g3, rfl, hg3, s3, hb3⟩))
  have q0 := p0.below hb3 p0.lt
  have q1 := p1.below hb3 p1.lt
  have qb := pb.trans (hb3.mono pb.size)
  clear p0 p1 pb hb3 hA
  go_upto_region 8 with (first | (refine wpList_load_row (by rfl) 22 (.tmp 5) (by rfl) (w0.heap.size) (by rfl) 22 (v8 nm) (0, 0) _ q0 Tryd.underlying22 rfl (name_info hn) ?_) | (refine wpList_load_row (by rfl) 24 (.tmp 6) (by rfl) (w0.heap.size + 1) (by rfl) 24 (v8 seed) (0, 0) _ q1 Tryd.underlying24 rfl (id_info hs) ?_) | (go_at_call 26; (with_reducible refine Calls.mono (hB _ (hmb.below qb)) ?_); rintro e w4 ⟨sp4, cap4, rfl, o4, hb4⟩))
  have x0 := q0.below hb4 q0.lt
  have x1 := q1.below hb4 q1.lt
  have xb := qb.trans (hb4.mono qb.size)
  have s4 := s3.below hb4 s3.lt
  clear q0 q1 qb hb4 hB s3
  have hc1 := hcv (some ⟨g3, 0, none⟩) 4332 w4 s4.bytes
  have hc2 := hcv sp4 cap4 w4 o4.bytes
  clear hcv
  generalize strOfNums SIG = ST at *
  have eR : (ST.toList != ST.toList) = false := by simp
  go_wp2_with (first | (refine wpList_load_row (by rfl) 22 (.tmp 5) (by rfl) (w0.heap.size) (by rfl) 22 (v8 nm) (0, 0) _ x0 Tryd.underlying22 rfl (name_info hn) ?_) | (refine wpList_load_row (by rfl) 24 (.tmp 6) (by rfl) (w0.heap.size + 1) (by rfl) 24 (v8 seed) (0, 0) _ x1 Tryd.underlying24 rfl (id_info hs) ?_) | (go_at_call 23; (with_reducible refine Calls.mono (hPu _) ?_); rintro e w5 ⟨sp5, cap5, rfl, o5, hb5⟩; have hC5 := hC w5 sp5 (some ⟨g3, 0, none⟩) cap5 4332 (hL.below (xb.trans (hb5.mono xb.size))) (hmb.below (xb.trans (hb5.mono xb.size))) (own_room2 o5 (by rw [hKl]; decide)) (Nat.le_refl _) o5.bytes ((s4.below hb5 s4.lt).bytes)) | (go_at_call 27; (with_reducible refine Calls.mono hC5 ?_); rintro e w6 ⟨rfl, hb6⟩))
  go_ret
  exact ⟨rfl, (xb.trans (hb5.mono xb.size)).trans (hb6.mono (xb.trans (hb5.mono xb.size)).size)⟩
set_option maxRecDepth 20000 in
set_option maxHeartbeats 2000000 in
theorem signs6_bad2 (S : List Int → List Int) (hS : Hash S) (nm seed : List Int) (hh q : Int) (mp : Option Addr) (ml mc : Nat) (w0 : World) (hL : Laid w0) (hn : nm.length = 16) (hs : seed.length = 32) (hmm : ml ≤ 200) (hwh : hh % 2 = 1) (hq : ¬ (0 ≤ q ∧ q < 4)) :
    Calls Tryd.prog 9 #[.agg (v8 nm), .agg (v8 seed), .int .i64 hh, .int .i64 q, .slice mp ml mc] w0 fun e w' => e = .returned (.bool true) ∧ Below w0.heap.size w0 w' := by
  have hK : ∀ wx, Laid wx → Calls Tryd.prog 21 #[] wx fun e w' => e = .returned (.bool true) ∧ Below wx.heap.size wx w' := fun wx hl => known6_any S hS wx hl
  have hw6 : ∀ wx, Calls Tryd.prog 24 #[.int .i64 hh, .int .i64 2] wx fun e w' => e = .returned (.int .i64 1) ∧ w' = wx := fun wx => by
    have := within6_any hh 2 wx (by omega) (by omega)
    rwa [hwh] at this
  have hPu : ∀ wx, Calls Tryd.prog 23 #[.agg (v8 nm), .agg (v8 seed), .int .i64 2] wx fun e w' => ∃ sp cap, e = .returned (.tuple #[.slice sp 56 cap, .int .i64 0]) ∧ Own8 w' wx.heap.size 5 (.slice sp 56 cap) (keyL ((2 : Nat) : Int) nm (nodeN S nm seed (2 ^ 2) 1)) ∧ Below wx.heap.size wx w' := fun wx => sixPublic_any S hS nm seed 2 wx hn hs (by omega) (by omega)
  have hm2 : decide ((ml : Int) > 200) = false := decide_eq_false (by omega)
  have hA := fun wx => lSign_bad2 nm seed q mp ml mc wx hq
  have hB := fun wx => sixSign_bad2 nm seed q mp ml mc wx hq
  clear hwh
  go_enter Tryd.func9, Tryd.ntmps9
  go_upto_region 1 with fail
  have r0 : Row (World.alloc (World.alloc w0 (.cells (v8 nm) 22)) (.cells (v8 seed) 24)) w0.heap.size 22 (v8 nm) := (Row.new _ _ _).alloc _
  have r1 : Row (World.alloc (World.alloc w0 (.cells (v8 nm) 22)) (.cells (v8 seed) 24)) (w0.heap.size + 1) 24 (v8 seed) := Row.newAt _ _ _ _ (by simp)
  have b1 : Below w0.heap.size w0 (World.alloc (World.alloc w0 (.cells (v8 nm) 22)) (.cells (v8 seed) 24)) := ((Below.refl _ _).alloc (Nat.le_refl _) _).alloc (by simp) _
  change Code.wp _ _ _ _ ((World.alloc (World.alloc w0 (.cells (v8 nm) 22)) (.cells (v8 seed) 24)))
  generalize (World.alloc (World.alloc w0 (.cells (v8 nm) 22)) (.cells (v8 seed) 24)) = w1 at r0 r1 b1 ⊢
  go_upto_region 6 with (first | (go_at_call 21; (with_reducible refine Calls.mono (hK _ (hL.below b1)) ?_); rintro e w2 ⟨rfl, hb2⟩; have p0 := r0.below hb2 r0.lt; have p1 := r1.below hb2 r1.lt; have pb := b1.trans (hb2.mono b1.size)) | (go_at_call 24; (with_reducible refine Calls.mono (hw6 _) ?_); rintro e w9 ⟨rfl, hw⟩; obtain rfl := hw.symm; clear hw))
  clear r0 r1 b1 hb2 hK hw6
  go_upto_region 7 with (first | (refine wpList_load_row (by rfl) 22 (.tmp 5) (by rfl) (w0.heap.size) (by rfl) 22 (v8 nm) (0, 0) _ p0 Tryd.underlying22 rfl (name_info hn) ?_) | (refine wpList_load_row (by rfl) 24 (.tmp 6) (by rfl) (w0.heap.size + 1) (by rfl) 24 (v8 seed) (0, 0) _ p1 Tryd.underlying24 rfl (id_info hs) ?_) | (go_at_call 25; (with_reducible refine Calls.mono (hA _) ?_); rintro e w3 ⟨rfl, hb3⟩))
  have q0 := p0.below hb3 p0.lt
  have q1 := p1.below hb3 p1.lt
  have qb := pb.trans (hb3.mono pb.size)
  clear p0 p1 pb hb3 hA
  go_upto_region 8 with (first | (refine wpList_load_row (by rfl) 22 (.tmp 5) (by rfl) (w0.heap.size) (by rfl) 22 (v8 nm) (0, 0) _ q0 Tryd.underlying22 rfl (name_info hn) ?_) | (refine wpList_load_row (by rfl) 24 (.tmp 6) (by rfl) (w0.heap.size + 1) (by rfl) 24 (v8 seed) (0, 0) _ q1 Tryd.underlying24 rfl (id_info hs) ?_) | (go_at_call 26; (with_reducible refine Calls.mono (hB _) ?_); rintro e w4 ⟨rfl, hb4⟩))
  have x0 := q0.below hb4 q0.lt
  have x1 := q1.below hb4 q1.lt
  have xb := qb.trans (hb4.mono qb.size)
  clear q0 q1 qb hb4 hB
  have hcn : ∀ wx, (convert 28 9 (.slice none 0 0)).run Tryd.prog wx = .ok (.string ByteArray.empty) wx := fun wx => by
    rw [run_convert_bytes_string wx 28 9 5 none 0 0 Tryd.underlying28 Tryd.underlying5 Tryd.underlying9]; rfl
  have hcw := hcn w4
  have eR : (ByteArray.empty.toList != ByteArray.empty.toList) = false := by simp
  go_wp2_with (first | (refine wpList_load_row (by rfl) 22 (.tmp 5) (by rfl) (w0.heap.size) (by rfl) 22 (v8 nm) (0, 0) _ x0 Tryd.underlying22 rfl (name_info hn) ?_) | (refine wpList_load_row (by rfl) 24 (.tmp 6) (by rfl) (w0.heap.size + 1) (by rfl) 24 (v8 seed) (0, 0) _ x1 Tryd.underlying24 rfl (id_info hs) ?_) | (go_at_call 23; (with_reducible refine Calls.mono (hPu _) ?_); rintro e w5 ⟨sp5, cap5, rfl, o5, hb5⟩))
  go_ret
  exact ⟨rfl, xb.trans (hb5.mono xb.size)⟩
set_option maxRecDepth 20000 in
set_option maxHeartbeats 2000000 in
theorem signs6_ok2 (S : List Int → List Int) (hS : Hash S) (nm seed msg : List Int) (hh : Int) (q : Nat) (mp : Option Addr) (ml mc : Nat) (w0 : World) (hL : Laid w0) (hn : nm.length = 16) (hs : seed.length = 32) (hnr : Oct nm) (hml : msg.length = ml) (hmn : mp = none → mc = 0 ∧ ml = 0) (hmm : ml ≤ 200) (hmb : Bytes w0 mp msg) (hwh : hh % 2 = 1) (hq : q < 4) :
    Calls Tryd.prog 9 #[.agg (v8 nm), .agg (v8 seed), .int .i64 hh, .int .i64 (q : Int), .slice mp ml mc] w0 fun e w' => e = .returned (.bool true) ∧ Below w0.heap.size w0 w' := by
  have hK : ∀ wx, Laid wx → Calls Tryd.prog 21 #[] wx fun e w' => e = .returned (.bool true) ∧ Below wx.heap.size wx w' := fun wx hl => known6_any S hS wx hl
  have hw6 : ∀ wx, Calls Tryd.prog 24 #[.int .i64 hh, .int .i64 2] wx fun e w' => e = .returned (.int .i64 1) ∧ w' = wx := fun wx => by
    have := within6_any hh 2 wx (by omega) (by omega)
    rwa [hwh] at this
  have hPu : ∀ wx, Calls Tryd.prog 23 #[.agg (v8 nm), .agg (v8 seed), .int .i64 2] wx fun e w' => ∃ sp cap, e = .returned (.tuple #[.slice sp 56 cap, .int .i64 0]) ∧ Own8 w' wx.heap.size 5 (.slice sp 56 cap) (keyL ((2 : Nat) : Int) nm (nodeN S nm seed (2 ^ 2) 1)) ∧ Below wx.heap.size wx w' := fun wx => sixPublic_any S hS nm seed 2 wx hn hs (by omega) (by omega)
  have hm2 : decide ((ml : Int) > 200) = false := decide_eq_false (by omega)
  have hA : ∀ wx, Laid wx → Bytes wx mp msg → Calls Tryd.prog 25 #[.agg (v8 nm), .agg (v8 seed), .int .i64 2, .int .i64 (q : Int), .slice mp ml mc] wx fun e w' => ∃ g, e = .returned (.tuple #[.slice (some ⟨g, 0, none⟩) 4364 4364, .int .i64 0]) ∧ wx.heap.size ≤ g ∧ Row w' g 5 (v8 (lsigL S nm seed 2 q msg)) ∧ Below wx.heap.size wx w' := fun wx hl hb => lSign_any S hS nm seed msg 2 q mp ml mc wx hl hn hs hml (by omega) hb (by omega) (by omega) hq
  have hB : ∀ wx, Bytes wx mp msg → Calls Tryd.prog 26 #[.agg (v8 nm), .agg (v8 seed), .int .i64 2, .int .i64 (q : Int), .slice mp ml mc] wx fun e w' => ∃ sp cap, e = .returned (.tuple #[.slice sp 4364 cap, .int .i64 0]) ∧ Own8 w' wx.heap.size 5 (.slice sp 4364 cap) (lsigL S nm seed 2 q msg) ∧ Below wx.heap.size wx w' := fun wx hb => sixSign_any S hS nm seed msg 2 q mp ml mc wx hn hs hml hmn (by omega) hb (by omega) (by omega) hq
  have hC := fun wx pp sp pc sc hl h1 h2 h3 h4 h5 => check_right S hS nm seed msg 2 q pp mp sp pc ml mc 4364 sc wx hl hn hnr hml (by omega) h1 h2 rfl h3 (by omega) (by omega) hq h4 h5
  have hSl : (lsigL S nm seed 2 q msg).length = 4364 := lsigL_len (fun l => hS.len l) nm seed 2 q msg
  have hKl : (keyL ((2 : Nat) : Int) nm (nodeN S nm seed (2 ^ 2) 1)).length = 56 := keyL_len hn (nodeN_len (fun l => hS.len l) _ _ _ _)
  generalize lsigL S nm seed 2 q msg = SIG at *
  generalize keyL ((2 : Nat) : Int) nm (nodeN S nm seed (2 ^ 2) 1) = KEY at *
  have hcv : ∀ sp cap wx, Bytes wx sp SIG → (convert 28 9 (.slice sp 4364 cap)).run Tryd.prog wx = .ok (.string (strOfNums SIG)) wx := fun sp cap wx hb => by
    obtain ⟨b', o', e, hc⟩ := hb (by omega)
    have h := run_convert_bytes_arg (P := Tryd.prog) wx 28 5 Tryd.underlying28 Tryd.underlying5 b' o' 4364 cap SIG hSl (fun i hi => by rw [hc i (by omega)]; rfl) 9 Tryd.underlying9
    rw [e, h]
  clear hwh
  go_enter Tryd.func9, Tryd.ntmps9
  go_upto_region 1 with fail
  have r0 : Row (World.alloc (World.alloc w0 (.cells (v8 nm) 22)) (.cells (v8 seed) 24)) w0.heap.size 22 (v8 nm) := (Row.new _ _ _).alloc _
  have r1 : Row (World.alloc (World.alloc w0 (.cells (v8 nm) 22)) (.cells (v8 seed) 24)) (w0.heap.size + 1) 24 (v8 seed) := Row.newAt _ _ _ _ (by simp)
  have b1 : Below w0.heap.size w0 (World.alloc (World.alloc w0 (.cells (v8 nm) 22)) (.cells (v8 seed) 24)) := ((Below.refl _ _).alloc (Nat.le_refl _) _).alloc (by simp) _
  change Code.wp _ _ _ _ ((World.alloc (World.alloc w0 (.cells (v8 nm) 22)) (.cells (v8 seed) 24)))
  generalize (World.alloc (World.alloc w0 (.cells (v8 nm) 22)) (.cells (v8 seed) 24)) = w1 at r0 r1 b1 ⊢
  go_upto_region 6 with (first | (go_at_call 21; (with_reducible refine Calls.mono (hK _ (hL.below b1)) ?_); rintro e w2 ⟨rfl, hb2⟩; have p0 := r0.below hb2 r0.lt; have p1 := r1.below hb2 r1.lt; have pb := b1.trans (hb2.mono b1.size)) | (go_at_call 24; (with_reducible refine Calls.mono (hw6 _) ?_); rintro e w9 ⟨rfl, hw⟩; obtain rfl := hw.symm; clear hw))
  clear r0 r1 b1 hb2 hK hw6
  go_upto_region 7 with (first | (refine wpList_load_row (by rfl) 22 (.tmp 5) (by rfl) (w0.heap.size) (by rfl) 22 (v8 nm) (0, 0) _ p0 Tryd.underlying22 rfl (name_info hn) ?_) | (refine wpList_load_row (by rfl) 24 (.tmp 6) (by rfl) (w0.heap.size + 1) (by rfl) 24 (v8 seed) (0, 0) _ p1 Tryd.underlying24 rfl (id_info hs) ?_) | (go_at_call 25; (with_reducible refine Calls.mono (hA _ (hL.below pb) (hmb.below pb)) ?_); rintro e w3 ⟨g3, rfl, hg3, s3, hb3⟩))
  have q0 := p0.below hb3 p0.lt
  have q1 := p1.below hb3 p1.lt
  have qb := pb.trans (hb3.mono pb.size)
  clear p0 p1 pb hb3 hA
  go_upto_region 8 with (first | (refine wpList_load_row (by rfl) 22 (.tmp 5) (by rfl) (w0.heap.size) (by rfl) 22 (v8 nm) (0, 0) _ q0 Tryd.underlying22 rfl (name_info hn) ?_) | (refine wpList_load_row (by rfl) 24 (.tmp 6) (by rfl) (w0.heap.size + 1) (by rfl) 24 (v8 seed) (0, 0) _ q1 Tryd.underlying24 rfl (id_info hs) ?_) | (go_at_call 26; (with_reducible refine Calls.mono (hB _ (hmb.below qb)) ?_); rintro e w4 ⟨sp4, cap4, rfl, o4, hb4⟩))
  have x0 := q0.below hb4 q0.lt
  have x1 := q1.below hb4 q1.lt
  have xb := qb.trans (hb4.mono qb.size)
  have s4 := s3.below hb4 s3.lt
  clear q0 q1 qb hb4 hB s3
  have hc1 := hcv (some ⟨g3, 0, none⟩) 4364 w4 s4.bytes
  have hc2 := hcv sp4 cap4 w4 o4.bytes
  clear hcv
  generalize strOfNums SIG = ST at *
  have eR : (ST.toList != ST.toList) = false := by simp
  go_wp2_with (first | (refine wpList_load_row (by rfl) 22 (.tmp 5) (by rfl) (w0.heap.size) (by rfl) 22 (v8 nm) (0, 0) _ x0 Tryd.underlying22 rfl (name_info hn) ?_) | (refine wpList_load_row (by rfl) 24 (.tmp 6) (by rfl) (w0.heap.size + 1) (by rfl) 24 (v8 seed) (0, 0) _ x1 Tryd.underlying24 rfl (id_info hs) ?_) | (go_at_call 23; (with_reducible refine Calls.mono (hPu _) ?_); rintro e w5 ⟨sp5, cap5, rfl, o5, hb5⟩; have hC5 := hC w5 sp5 (some ⟨g3, 0, none⟩) cap5 4364 (hL.below (xb.trans (hb5.mono xb.size))) (hmb.below (xb.trans (hb5.mono xb.size))) (own_room2 o5 (by rw [hKl]; decide)) (Nat.le_refl _) o5.bytes ((s4.below hb5 s4.lt).bytes)) | (go_at_call 27; (with_reducible refine Calls.mono hC5 ?_); rintro e w6 ⟨rfl, hb6⟩))
  go_ret
  exact ⟨rfl, (xb.trans (hb5.mono xb.size)).trans (hb6.mono (xb.trans (hb5.mono xb.size)).size)⟩
end Go.Proofs.YtoebnkepeledmaaDoor
