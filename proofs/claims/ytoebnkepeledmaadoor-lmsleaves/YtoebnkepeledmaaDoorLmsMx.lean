/- A public key read, in lms. No old memory turns. -/
import Derived.Test.YtoebnkepeledmaaDoorLmsLx
import Derived.Test.YtoebnkepeledmaaDoorOtsHx
namespace Go.Proofs.YtoebnkepeledmaaDoor
open Go Go.RowKit

def kz : Array Value := kc (zer 16) 0 (zer 32)
theorem kc_one (nm top : List Int) (h : Int) : (kc nm h top).all (·.oneCell') = true := by
  unfold kc
  rw [Array.all_append, Array.all_append, v8_one, v8_one]
  simp [Value.oneCell']
theorem key_info {nm top : List Int} {h : Int} (hn : nm.length = 16) (ht : top.length = 32) : (Tryd.prog.info? 80).map (·.size) = some (kc nm h top).size := by rw [kc_size hn ht]; kernel_rfl
theorem zkey (wx : World) : (zeroValue 80).run Tryd.prog wx = .ok (.agg kz) wx := by kernel_rfl
theorem build_none (wx : World) : (Instr.build 80 #[]).run Tryd.prog wx = .ok (.agg kz) wx := run_build wx 80 #[] kz (by kernel_rfl)
theorem built_two (top : List Int) (h : Int) (ht : top.length = 32) : Tryd.prog.built 80 [(1, .int .i64 h), (2, .agg (v8 top))] = some (kc (zer 16) h top) := by
  rw [list_map top 32 ht]
  generalize gi top = f2
  kernel_rfl
theorem copy_name {w : World} {ops : Array Oper} {rest : List Oper} {o : Oper} {a : Act} {Q : Exit → Act → World → Prop} (d s : Operand)
    (ho : o.op = .call { callee := .builtin .copy, args := #[d, s], argTypes := #[28, 28] }) (hgd : o.guard = none)
    (sp : Option Addr) (sLen sCap g : Nat) (hd : a.eval d = .slice (some ⟨g, 0, none⟩) 16 16) (hs : a.eval s = .slice sp sLen sCap)
    (nm0 nm top : List Int) (h : Int) (hg : Row w g 80 (kc nm0 h top)) (hn0 : nm0.length = 16) (hn : nm.length = 16) (hl : 16 ≤ sLen) (hsp : Bytes w sp nm)
    (hk : wpList Tryd.prog ops Q rest (a.put o.dst (.int .i64 16)) (w.setRow g (kc nm h top))) : wpList Tryd.prog ops Q (o :: rest) a w := by
  obtain ⟨b, ob, rfl, hsrc⟩ := hsp (by omega)
  refine wpList_copy_own hgd d s 28 28 ho 5 Tryd.underlying28 (by kernel_rfl) g 0 16 16 ⟨b, ob, none⟩ sLen sCap hd hs (kc nm0 h top) 80 hg (nm.map (Value.int .u8)) (by rw [List.length_map, hn]; exact (Nat.min_eq_right hl).symm) (fun j v hv => ?_) (by rw [List.length_map, hn]; simp [kc, v8_size, hn0]; omega) (fun v hv => ?_) ?_
  · rw [Addr.add_mid]
    have hj : j < nm.length := by
      have := (List.getElem?_eq_some_iff.1 hv).1; simpa using this
    rw [hsrc j hj, ← hv]; simp [gi, hj]
  · obtain ⟨x, _, rfl⟩ := List.mem_map.1 hv; rfl
  · have e : ((kc nm0 h top).toList.take 0 ++ (nm.map (Value.int .u8) ++ (kc nm0 h top).toList.drop (0 + (nm.map (Value.int .u8)).length))).toArray = kc nm h top := by
      simp [kc, v8, hn, hn0]
    rw [e]; simpa [goInt, hn] using hk
theorem build_two {w : World} {ops : Array Oper} {rest : List Oper} {o : Oper} {a : Act} {Q : Exit → Act → World → Prop} (x y : Operand) (ho : o.op = .build 80 #[(1, x), (2, y)]) (hgd : o.guard = none) (h : Int) (top : List Int) (hx : a.eval x = .int .i64 h) (hy : a.eval y = .agg (v8 top)) (ht : top.length = 32)
    (hk : wpList Tryd.prog ops Q rest (a.put o.dst (.agg (kc (zer 16) h top))) w) : wpList Tryd.prog ops Q (o :: rest) a w := by
  have hr := run_build (P := Tryd.prog) w 80 #[(1, .int .i64 h), (2, .agg (v8 top))] _ (built_two top h ht)
  refine wpList_plain hgd fun _ hK => ?_
  unfold Oper.wp execOp
  simp only [ho, List.map_toArray, List.map_cons, List.map_nil, hx, hy, Sem.run_bind, hr, Result.andThen_ok]
  exact hK _ _ hk
theorem num4_range {l : List Int} {k : Nat} (hr : ∀ x ∈ l, 0 ≤ x ∧ x < 256) (hk : k + 4 ≤ l.length) : 0 ≤ num4 l k ∧ num4 l k < 4294967296 := by
  have hrg : ∀ j, j < l.length → 0 ≤ gi l j ∧ gi l j < 256 := fun j hj => by
    have : gi l j = l[j]'hj := by simp [gi, List.getD, List.getElem?_eq_getElem hj]
    rw [this]; exact hr _ (List.getElem_mem _)
  have h0 := hrg k (by omega)
  have h1 := hrg (k + 1) (by omega)
  have h2 := hrg (k + 2) (by omega)
  have h3 := hrg (k + 3) (by omega)
  unfold num4
  omega
/-- What a public key's bytes say: its height, where they are one. -/
def keyOk (P : List Int) : Prop := P.length = 56 ∧ 1 ≤ num4 P 0 ∧ num4 P 0 ≤ 5 ∧ num4 P 4 = 2

set_option maxRecDepth 20000 in
set_option maxHeartbeats 1000000 in
theorem keyOf_len (sp : Option Addr) (len cap : Nat) (w : World) (h : len ≠ 56) :
    Calls Tryd.prog 52 #[.slice sp len cap] w fun e w' => e = .returned (.tuple #[.agg kz, .bool false]) ∧ Below w.heap.size w w' := by
  have hI : ((len : Int) != 56) = true := by simp; omega
  have z1 := zkey
  have hbz := build_none
  go_enter Tryd.func52, Tryd.ntmps52
  go_upto_region 1 with fail
  have r0 : Row (World.alloc w (.cells kz 80)) w.heap.size 80 kz := Row.new _ _ _
  have b1 : Below w.heap.size w (World.alloc w (.cells kz 80)) := (Below.refl _ _).alloc (Nat.le_refl _) _
  change Code.wp _ _ _ _ ((World.alloc w (.cells kz 80)))
  generalize (World.alloc w (.cells kz 80)) = w1 at r0 b1 ⊢
  go_wp2_with (refine store_row0 80 (.tmp 2) (.tmp 9) (by rfl) (by rfl) (by rfl) w.heap.size kz (by rfl) (by rfl) 80 _ r0 (key_info (zer_len 16) (zer_len 32)) rfl (kc_one _ _ _) ?_)
  exact bodyPost_ret (results_row_tmp Tryd.results52 _ _ w.heap.size 80 _ _ rfl (r0.setRow _) Tryd.underlying80 rfl (key_info (zer_len 16) (zer_len 32))) rfl ⟨rfl, below_setRow b1 (Nat.le_refl _) _⟩
set_option maxRecDepth 20000 in
set_option maxHeartbeats 1000000 in
theorem keyOf_low (P : List Int) (sp : Option Addr) (len cap : Nat) (w : World) (hl : P.length = len) (hcap : len ≤ cap) (hby : Bytes w sp P) (hr : ∀ x ∈ P, 0 ≤ x ∧ x < 256) (hlen : len = 56) (h : num4 P 0 < 1) :
    Calls Tryd.prog 52 #[.slice sp len cap] w fun e w' => e = .returned (.tuple #[.agg kz, .bool false]) ∧ Below w.heap.size w w' := by
  subst hlen
  have hn0 : ∀ wx, Bytes wx sp P → Calls Tryd.prog 53 #[.slice sp 56 cap, .int .i64 0] wx fun e w' => e = .returned (.int .u32 (num4 P 0)) ∧ Below wx.heap.size wx w' := fun wx hb => numberAt_any P sp 56 cap 0 wx hl hcap (by omega) hb hr
  have hn4 : ∀ wx, Bytes wx sp P → Calls Tryd.prog 53 #[.slice sp 56 cap, .int .i64 4] wx fun e w' => e = .returned (.int .u32 (num4 P 4)) ∧ Below wx.heap.size wx w' := fun wx hb => numberAt_any P sp 56 cap 4 wx hl hcap (by omega) hb hr
  have hr0 := num4_range (k := 0) hr (by omega)
  have hr4 := num4_range (k := 4) hr (by omega)
  generalize num4 P 0 = x0 at *
  generalize num4 P 4 = x4 at *
  have z1 := zkey
  have hbz := build_none
  go_enter Tryd.func52, Tryd.ntmps52
  go_upto_region 1 with fail
  have r0 : Row (World.alloc w (.cells kz 80)) w.heap.size 80 kz := Row.new _ _ _
  have b1 : Below w.heap.size w (World.alloc w (.cells kz 80)) := (Below.refl _ _).alloc (Nat.le_refl _) _
  change Code.wp _ _ _ _ ((World.alloc w (.cells kz 80)))
  generalize (World.alloc w (.cells kz 80)) = w1 at r0 b1 ⊢
  go_wp2_with (first | (go_at_call_of 53 (Value.int IntKind.i64 0); (with_reducible refine Calls.mono (hn0 _ (hby.below b1)) ?_); rintro e w2 ⟨rfl, hb2⟩; have r2 := r0.below hb2 r0.lt; have b2 := b1.trans (hb2.mono b1.size)) | (refine store_row0 80 (.tmp 2) (.tmp 23) (by rfl) (by rfl) (by rfl) w.heap.size kz (by rfl) (by rfl) 80 _ r2 (key_info (zer_len 16) (zer_len 32)) rfl (kc_one _ _ _) ?_))
  exact bodyPost_ret (results_row_tmp Tryd.results52 _ _ w.heap.size 80 _ _ rfl (r2.setRow _) Tryd.underlying80 rfl (key_info (zer_len 16) (zer_len 32))) rfl ⟨rfl, below_setRow b2 (Nat.le_refl _) _⟩
set_option maxRecDepth 20000 in
set_option maxHeartbeats 1000000 in
theorem keyOf_high (P : List Int) (sp : Option Addr) (len cap : Nat) (w : World) (hl : P.length = len) (hcap : len ≤ cap) (hby : Bytes w sp P) (hr : ∀ x ∈ P, 0 ≤ x ∧ x < 256) (hlen : len = 56) (h : num4 P 0 > 5) :
    Calls Tryd.prog 52 #[.slice sp len cap] w fun e w' => e = .returned (.tuple #[.agg kz, .bool false]) ∧ Below w.heap.size w w' := by
  subst hlen
  have hn0 : ∀ wx, Bytes wx sp P → Calls Tryd.prog 53 #[.slice sp 56 cap, .int .i64 0] wx fun e w' => e = .returned (.int .u32 (num4 P 0)) ∧ Below wx.heap.size wx w' := fun wx hb => numberAt_any P sp 56 cap 0 wx hl hcap (by omega) hb hr
  have hn4 : ∀ wx, Bytes wx sp P → Calls Tryd.prog 53 #[.slice sp 56 cap, .int .i64 4] wx fun e w' => e = .returned (.int .u32 (num4 P 4)) ∧ Below wx.heap.size wx w' := fun wx hb => numberAt_any P sp 56 cap 4 wx hl hcap (by omega) hb hr
  have hr0 := num4_range (k := 0) hr (by omega)
  have hr4 := num4_range (k := 4) hr (by omega)
  generalize num4 P 0 = x0 at *
  generalize num4 P 4 = x4 at *
  have h1 : ¬ (x0 < 1) := by omega
  have z1 := zkey
  have hbz := build_none
  go_enter Tryd.func52, Tryd.ntmps52
  go_upto_region 1 with fail
  have r0 : Row (World.alloc w (.cells kz 80)) w.heap.size 80 kz := Row.new _ _ _
  have b1 : Below w.heap.size w (World.alloc w (.cells kz 80)) := (Below.refl _ _).alloc (Nat.le_refl _) _
  change Code.wp _ _ _ _ ((World.alloc w (.cells kz 80)))
  generalize (World.alloc w (.cells kz 80)) = w1 at r0 b1 ⊢
  go_wp2_with (first | (go_at_call_of 53 (Value.int IntKind.i64 0); (with_reducible refine Calls.mono (hn0 _ (hby.below b1)) ?_); rintro e w2 ⟨rfl, hb2⟩; have r2 := r0.below hb2 r0.lt; have b2 := b1.trans (hb2.mono b1.size)) | (refine store_row0 80 (.tmp 2) (.tmp 23) (by rfl) (by rfl) (by rfl) w.heap.size kz (by rfl) (by rfl) 80 _ r2 (key_info (zer_len 16) (zer_len 32)) rfl (kc_one _ _ _) ?_))
  exact bodyPost_ret (results_row_tmp Tryd.results52 _ _ w.heap.size 80 _ _ rfl (r2.setRow _) Tryd.underlying80 rfl (key_info (zer_len 16) (zer_len 32))) rfl ⟨rfl, below_setRow b2 (Nat.le_refl _) _⟩
set_option maxRecDepth 20000 in
set_option maxHeartbeats 1000000 in
theorem keyOf_type (P : List Int) (sp : Option Addr) (len cap : Nat) (w : World) (hl : P.length = len) (hcap : len ≤ cap) (hby : Bytes w sp P) (hr : ∀ x ∈ P, 0 ≤ x ∧ x < 256) (hlen : len = 56) (h1 : ¬ (num4 P 0 < 1)) (h2 : ¬ (num4 P 0 > 5)) (h : num4 P 4 ≠ 2) :
    Calls Tryd.prog 52 #[.slice sp len cap] w fun e w' => e = .returned (.tuple #[.agg kz, .bool false]) ∧ Below w.heap.size w w' := by
  subst hlen
  have hn0 : ∀ wx, Bytes wx sp P → Calls Tryd.prog 53 #[.slice sp 56 cap, .int .i64 0] wx fun e w' => e = .returned (.int .u32 (num4 P 0)) ∧ Below wx.heap.size wx w' := fun wx hb => numberAt_any P sp 56 cap 0 wx hl hcap (by omega) hb hr
  have hn4 : ∀ wx, Bytes wx sp P → Calls Tryd.prog 53 #[.slice sp 56 cap, .int .i64 4] wx fun e w' => e = .returned (.int .u32 (num4 P 4)) ∧ Below wx.heap.size wx w' := fun wx hb => numberAt_any P sp 56 cap 4 wx hl hcap (by omega) hb hr
  have hr0 := num4_range (k := 0) hr (by omega)
  have hr4 := num4_range (k := 4) hr (by omega)
  generalize num4 P 0 = x0 at *
  generalize num4 P 4 = x4 at *
  have h3 : (x4 != 2) = true := by simpa using h
  have z1 := zkey
  have hbz := build_none
  go_enter Tryd.func52, Tryd.ntmps52
  go_upto_region 1 with fail
  have r0 : Row (World.alloc w (.cells kz 80)) w.heap.size 80 kz := Row.new _ _ _
  have b1 : Below w.heap.size w (World.alloc w (.cells kz 80)) := (Below.refl _ _).alloc (Nat.le_refl _) _
  change Code.wp _ _ _ _ ((World.alloc w (.cells kz 80)))
  generalize (World.alloc w (.cells kz 80)) = w1 at r0 b1 ⊢
  go_wp2_with (first | (go_at_call_of 53 (Value.int IntKind.i64 0); (with_reducible refine Calls.mono (hn0 _ (hby.below b1)) ?_); rintro e w2 ⟨rfl, hb2⟩; have r2 := r0.below hb2 r0.lt; have b2 := b1.trans (hb2.mono b1.size)) | (go_at_call_of 53 (Value.int IntKind.i64 4); (with_reducible refine Calls.mono (hn4 _ (hby.below b2)) ?_); rintro e w3 ⟨rfl, hb3⟩; have r3 := r2.below hb3 r2.lt; have b3 := b2.trans (hb3.mono b2.size)) | (refine store_row0 80 (.tmp 2) (.tmp 23) (by rfl) (by rfl) (by rfl) w.heap.size kz (by rfl) (by rfl) 80 _ r3 (key_info (zer_len 16) (zer_len 32)) rfl (kc_one _ _ _) ?_))
  exact bodyPost_ret (results_row_tmp Tryd.results52 _ _ w.heap.size 80 _ _ rfl (r3.setRow _) Tryd.underlying80 rfl (key_info (zer_len 16) (zer_len 32))) rfl ⟨rfl, below_setRow b3 (Nat.le_refl _) _⟩
set_option maxRecDepth 20000 in
set_option maxHeartbeats 1000000 in
theorem keyOf_ok (P : List Int) (sp : Option Addr) (len cap : Nat) (w : World) (hl : P.length = len) (hcap : len ≤ cap) (hby : Bytes w sp P) (hr : ∀ x ∈ P, 0 ≤ x ∧ x < 256) (hk : keyOk P) :
    Calls Tryd.prog 52 #[.slice sp len cap] w fun e w' => e = .returned (.tuple #[.agg (kc ((P.drop 8).take 16) (num4 P 0) (cutL P 24)), .bool true]) ∧ Below w.heap.size w w' := by
  obtain ⟨hP, g1, g2, g3⟩ := hk
  have hlen : len = 56 := by omega
  have htp : ∀ wx, Bytes wx sp P → Calls Tryd.prog 68 #[.slice sp len cap, .int .i64 24] wx fun e w' => e = .returned (.agg (v8 (cutL P 24))) ∧ Below wx.heap.size wx w' := fun wx hb => lhashAt_any P sp len cap 24 wx hl hcap (by omega) hb
  have hTl : (cutL P 24).length = 32 := by unfold cutL; simp; omega
  have hNl : ((P.drop 8).take 16).length = 16 := by simp; omega
  obtain ⟨b8, o8, rfl, _⟩ := hby (by omega)
  have hsrc : Bytes w (some ⟨b8, o8 + 8, none⟩) ((P.drop 8).take 16) := (Bytes.drop hby 8).take 16
  subst hlen
  have hn0 : ∀ wx, Bytes wx (some ⟨b8, o8, none⟩) P → Calls Tryd.prog 53 #[.slice (some ⟨b8, o8, none⟩) 56 cap, .int .i64 0] wx fun e w' => e = .returned (.int .u32 (num4 P 0)) ∧ Below wx.heap.size wx w' := fun wx hb => numberAt_any P _ 56 cap 0 wx hl hcap (by omega) hb hr
  have hn4 : ∀ wx, Bytes wx (some ⟨b8, o8, none⟩) P → Calls Tryd.prog 53 #[.slice (some ⟨b8, o8, none⟩) 56 cap, .int .i64 4] wx fun e w' => e = .returned (.int .u32 (num4 P 4)) ∧ Below wx.heap.size wx w' := fun wx hb => numberAt_any P _ 56 cap 4 wx hl hcap (by omega) hb hr
  have hr0 := num4_range (k := 0) hr (by omega)
  have hr4 := num4_range (k := 4) hr (by omega)
  generalize num4 P 0 = x0 at *
  generalize num4 P 4 = x4 at *
  generalize cutL P 24 = TOP at *
  generalize (P.drop 8).take 16 = NM at *
  have h1 : ¬ (x0 < 1) := by omega
  have h2 : ¬ (x0 > 5) := by omega
  have h3 : (x4 != 2) = false := by simp [g3]
  have z1 := zkey
  have hbz := build_none
  go_enter Tryd.func52, Tryd.ntmps52
  go_upto_region 1 with fail
  have r0 : Row (World.alloc w (.cells kz 80)) w.heap.size 80 kz := Row.new _ _ _
  have b1 : Below w.heap.size w (World.alloc w (.cells kz 80)) := (Below.refl _ _).alloc (Nat.le_refl _) _
  change Code.wp _ _ _ _ ((World.alloc w (.cells kz 80)))
  generalize (World.alloc w (.cells kz 80)) = w1 at r0 b1 ⊢
  go_upto_region 7 with (first | (refine build_two (.tmp 25) (.tmp 27) (by rfl) (by rfl) x0 TOP (by rfl) (by rfl) hTl ?_) | (go_at_call_of 53 (Value.int IntKind.i64 0); (with_reducible refine Calls.mono (hn0 _ (hby.below b1)) ?_); rintro e w2 ⟨rfl, hb2⟩; have r2 := r0.below hb2 r0.lt; have b2 := b1.trans (hb2.mono b1.size)) | (go_at_call_of 53 (Value.int IntKind.i64 4); (with_reducible refine Calls.mono (hn4 _ (hby.below b2)) ?_); rintro e w3 ⟨rfl, hb3⟩; have r3 := r2.below hb3 r2.lt; have b3 := b2.trans (hb3.mono b2.size)) | (go_at_call 68; (with_reducible refine Calls.mono (htp _ (hby.below b3)) ?_); rintro e w4 ⟨rfl, hb4⟩; have r4 := r3.below hb4 r3.lt; have b4 := b3.trans (hb4.mono b3.size)) | (refine store_row0 80 (.tmp 5) (.tmp 28) (by rfl) (by rfl) (by rfl) w4.heap.size (kc (zer 16) x0 TOP) (by rfl) (by rfl) 80 kz (Row.new w4 80 _) (key_info (zer_len 16) hTl) (by rw [kc_size (zer_len 16) hTl]; rfl) (kc_one _ _ _) ?_))
  have hs4 := b4.size
  have hs5 := r4.lt
  have s5 := (Row.new w4 80 kz).setRow (kc (zer 16) x0 TOP)
  have s0 := (r4.alloc (.cells kz 80)).setRowOther (g := w4.heap.size) (by omega) (kc (zer 16) x0 TOP)
  have sb : Below w.heap.size w ((w4.alloc (.cells kz 80)).setRow w4.heap.size (kc (zer 16) x0 TOP)) := below_setRow (b4.alloc hs4 _) hs4 _
  obtain ⟨g5, hg5⟩ : ∃ g5, g5 = w4.heap.size := ⟨_, rfl⟩
  have hg5' : w.heap.size < g5 := by omega
  change Code.wp _ _ _ _ ((w4.alloc (.cells kz 80)).setRow w4.heap.size (kc (zer 16) x0 TOP))
  rw [← hg5] at s5 s0 sb ⊢
  generalize (w4.alloc (.cells kz 80)).setRow g5 (kc (zer 16) x0 TOP) = w5 at s5 s0 sb ⊢
  have hy5 := hsrc.below sb
  clear r0 b1 r2 b2 hb2 r3 b3 hb3 r4 b4 hb4 hg5 hs4 hs5 hsrc
  refine wp_region_quiet_tail 4 (by kernel_rfl) (by kernel_rfl) ?_
  simp only [List.take_succ_cons, List.take_zero, List.drop_succ_cons, List.drop_zero]
  repeat (go_big_quiet_step (fail))
  refine wpQuiet_nil ?_
  rintro _ ⟨nq, rfl⟩
  refine copy_name (w := w5.drewN nq) (.tmp 30) (.tmp 32) (by rfl) (by rfl) (some ⟨b8, o8 + 8, none⟩) 48 (cap - 8) g5 (by rfl) (by rfl) (zer 16) NM TOP x0 (s5.drewN nq) (zer_len 16) hNl (by omega) (hy5.drewN nq) ?_
  simp only [Act.put, List.setIfInBounds_toArray, List.set_cons_succ, List.set_cons_zero]
  have t5 := (s5.drewN nq).setRow (kc NM x0 TOP)
  have t0 := (s0.drewN nq).setRowOther (g := g5) (by omega) (kc NM x0 TOP)
  have tb := below_setRow (g := g5) (below_drewN sb nq) (by omega) (kc NM x0 TOP)
  generalize (w5.drewN nq).setRow g5 (kc NM x0 TOP) = w6 at t5 t0 tb ⊢
  go_wp2_with (first | (refine wpList_load_row (by rfl) 80 (.tmp 5) (by rfl) g5 (by rfl) 80 (kc NM x0 TOP) (0, 0) _ t5 Tryd.underlying80 rfl (key_info hNl hTl) ?_) | (refine store_row0 80 (.tmp 2) (.tmp 34) (by rfl) (by rfl) (by rfl) w.heap.size (kc NM x0 TOP) (by rfl) (by rfl) 80 _ t0 (key_info hNl hTl) (by rw [kc_size hNl hTl]; rfl) (kc_one _ _ _) ?_))
  exact bodyPost_ret (results_row_tmp Tryd.results52 _ _ w.heap.size 80 _ _ rfl (t0.setRow _) Tryd.underlying80 rfl (key_info hNl hTl)) rfl ⟨rfl, below_setRow tb (Nat.le_refl _) _⟩
end Go.Proofs.YtoebnkepeledmaaDoor
