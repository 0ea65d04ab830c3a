/- ots.Back: where a signature leads. No old memory turns. -/
import Derived.Test.YtoebnkepeledmaaDoorGj
import Derived.Test.YtoebnkepeledmaaDoorGi
namespace Go.Proofs.YtoebnkepeledmaaDoor
open Go.RowKit

/-- A whole row, loaded in a family of worlds, where the guard lets the load by. -/
theorem q_load_rowW {P : Program} {ops : Array Oper} {ι : Type} {W : ι → World} {Q : Act → Prop} {rest : List Oper} {o : Oper} {a : Act} (ty : TypeId) (x : Operand) (ho : o.op = .load ty x) (hgd : Region.wanted o (yielded ops a.tmps) = true)
    (g : Nat) (hx : a.eval x = .pointer (some ⟨g, 0, none⟩)) (t : TypeId) (cs : Array Value) (d : TypeDesc) (hr : ∀ i, Row (W i) g t cs)
    (hu : P.underlying ty = some d) (hd : (match d with | .struct _ | .array _ _ => true | _ => false) = true) (hi : (P.info? ty).map (·.size) = some cs.size)
    (h : wpQuiet P ops (fun w' => ∃ i, w' = W i) Q rest (a.put o.dst (.agg cs))) : wpQuiet P ops (fun w' => ∃ i, w' = W i) Q (o :: rest) a := by
  unfold wpQuiet
  rw [if_pos hgd]
  refine ⟨.agg cs, fun w hw => ?_, h⟩
  obtain ⟨i, rfl⟩ := hw
  unfold Oper.quietAt execOp
  simp only [ho, hx, Instr.loadAt, Instr.sureAddr, Sem.run_bind, Sem.run_pure, Result.andThen_ok, run_loadVar_row (W i) g t ty cs (0, 0) d (hr i) hu hd hi]
  exact ⟨rfl, rfl⟩

set_option maxRecDepth 20000 in
set_option maxHeartbeats 400000 in
theorem Back_len (nm sig : List Int) (q : Int) (mp sp : Option Addr) (ml mc len cap : Nat) (w : World) (hsl : sig.length = len) (hby : Bytes w sp sig) (h : len ≠ 4292) :
    Calls Tryd.prog 18 #[.agg (v8 nm), .int .i64 q, .slice mp ml mc, .slice sp len cap] w fun e w' => e = .returned (.tuple #[.agg (v8 (zer 32)), .int .i64 12]) ∧ Below w.heap.size w w' := by
  have z32 := zv32
  have z4 := zv4
  go_enter Tryd.func18, Tryd.ntmps18
  go_upto_region 2 with fail
  have r0 : Row (World.alloc (World.alloc (World.alloc w (.cells (v8 nm) 22)) (.cells (v8 (zer 32)) 24)) (.cells (v8 (zer 4)) 66)) w.heap.size 22 (v8 nm) := ((Row.new _ _ _).alloc _).alloc _
  have r1 : Row (World.alloc (World.alloc (World.alloc w (.cells (v8 nm) 22)) (.cells (v8 (zer 32)) 24)) (.cells (v8 (zer 4)) 66)) (w.heap.size + 1) 24 (v8 (zer 32)) := (Row.newAt _ _ _ _ (by simp)).alloc _
  have r2 : Row (World.alloc (World.alloc (World.alloc w (.cells (v8 nm) 22)) (.cells (v8 (zer 32)) 24)) (.cells (v8 (zer 4)) 66)) (w.heap.size + 2) 66 (v8 (zer 4)) := Row.newAt _ _ _ _ (by simp)
  have b1 : Below w.heap.size w (World.alloc (World.alloc (World.alloc w (.cells (v8 nm) 22)) (.cells (v8 (zer 32)) 24)) (.cells (v8 (zer 4)) 66)) := (((Below.refl _ _).alloc (Nat.le_refl _) _).alloc (by simp) _).alloc (by simp; omega) _
  change Code.wp _ _ _ _ ((World.alloc (World.alloc (World.alloc w (.cells (v8 nm) 22)) (.cells (v8 (zer 32)) 24)) (.cells (v8 (zer 4)) 66)))
  generalize (World.alloc (World.alloc (World.alloc w (.cells (v8 nm) 22)) (.cells (v8 (zer 32)) 24)) (.cells (v8 (zer 4)) 66)) = w1 at r0 r1 r2 b1 ⊢
  have hby1 := (hby.below b1).take 4
  have hcl4 : (sig.take 4).length = min len 4 := by rw [List.length_take, hsl, Nat.min_comm]
  go_upto_region 3 with (refine copy8 (.tmp 16) (.tmp 17) 28 28 (by rfl) (by rfl) 5 Tryd.underlying28 (by kernel_rfl) (some ⟨w.heap.size + 2, 0, none⟩) sp 4 4 len cap (by rfl) (by rfl) (w.heap.size + 2) 0 (zer 4) 66 r2 (sig.take 4) hcl4 (fun _ => rfl) hby1 (by rw [hcl4, zer_len]; omega) ?_)
  simp only [Act.put, List.setIfInBounds_toArray, List.set_cons_succ, List.set_cons_zero]
  have hHd : (spl (zer 4) 0 (sig.take 4)).length = 4 := by rw [spl_length _ _ _ (by rw [hcl4, zer_len]; omega), zer_len]
  have hHd2 : 4 ≤ len → spl (zer 4) 0 (sig.take 4) = sig.take 4 := fun h => by rw [zer_eq, spl_zero, hcl4, show 4 - min len 4 = 0 by omega]; simp
  generalize spl (zer 4) 0 (sig.take 4) = HD at *
  generalize ((sig.take 4).length : Int) = u18
  have q0 := r0.setRowOther (g := w.heap.size + 2) (by omega) (v8 HD)
  have q1 := r1.setRowOther (g := w.heap.size + 2) (by omega) (v8 HD)
  have q2 := r2.setRow (v8 HD)
  have qb := below_setRow (g := w.heap.size + 2) b1 (by omega) (v8 HD)
  generalize w1.setRow (w.heap.size + 2) (v8 HD) = w2 at q0 q1 q2 qb ⊢
  clear r0 r1 r2 b1 hby1 hcl4
  have hq2 := q2.lt
  have hneb : ((len : Int) != 4292) = true := by simp; omega
  refine region_tail 7 (by kernel_rfl) (by kernel_rfl) (by kernel_rfl) ?_
  apply Exists.intro
  refine ⟨fun ι _ W hb hc => ?_, fun w6 hb6 => ?_⟩
  · simp only [List.take_succ_cons, List.take_zero]
    go_big_quiet_step (fail)
    go_big_quiet_step (fail)
    go_big_quiet_step (fail)
    repeat (go_big_quiet_step (fail))
    exact wpQuiet_nil rfl
  · simp only [List.drop_succ_cons, List.drop_zero]
    have v1 := q1.below hb6 q1.lt
    have vb := qb.trans (hb6.mono qb.size)
    go_wp2_with (refine store_row0 24 (.tmp 8) (.tmp 27) (by rfl) (by rfl) (by rfl) (w.heap.size + 1) (v8 (zer 32)) (by rfl) (by rfl) 24 _ v1 (id_info (zer_len 32)) rfl (v8_one _) ?_)
    exact bodyPost_ret (results_row_tmp Tryd.results18 _ _ (w.heap.size + 1) 24 (v8 (zer 32)) _ rfl (v1.setRow _) Tryd.underlying24 rfl (id_info (zer_len 32))) rfl ⟨rfl, below_setRow vb (by omega) _⟩

set_option maxRecDepth 20000 in
set_option maxHeartbeats 400000 in
theorem Back_type (nm sig : List Int) (q : Int) (mp sp : Option Addr) (ml mc len cap : Nat) (w : World) (hsl : sig.length = len) (hby : Bytes w sp sig) (h : len = 4292) (hty : sig.take 4 ≠ n4 2) :
    Calls Tryd.prog 18 #[.agg (v8 nm), .int .i64 q, .slice mp ml mc, .slice sp len cap] w fun e w' => e = .returned (.tuple #[.agg (v8 (zer 32)), .int .i64 12]) ∧ Below w.heap.size w w' := by
  have z32 := zv32
  have z4 := zv4
  go_enter Tryd.func18, Tryd.ntmps18
  go_upto_region 2 with fail
  have r0 : Row (World.alloc (World.alloc (World.alloc w (.cells (v8 nm) 22)) (.cells (v8 (zer 32)) 24)) (.cells (v8 (zer 4)) 66)) w.heap.size 22 (v8 nm) := ((Row.new _ _ _).alloc _).alloc _
  have r1 : Row (World.alloc (World.alloc (World.alloc w (.cells (v8 nm) 22)) (.cells (v8 (zer 32)) 24)) (.cells (v8 (zer 4)) 66)) (w.heap.size + 1) 24 (v8 (zer 32)) := (Row.newAt _ _ _ _ (by simp)).alloc _
  have r2 : Row (World.alloc (World.alloc (World.alloc w (.cells (v8 nm) 22)) (.cells (v8 (zer 32)) 24)) (.cells (v8 (zer 4)) 66)) (w.heap.size + 2) 66 (v8 (zer 4)) := Row.newAt _ _ _ _ (by simp)
  have b1 : Below w.heap.size w (World.alloc (World.alloc (World.alloc w (.cells (v8 nm) 22)) (.cells (v8 (zer 32)) 24)) (.cells (v8 (zer 4)) 66)) := (((Below.refl _ _).alloc (Nat.le_refl _) _).alloc (by simp) _).alloc (by simp; omega) _
  change Code.wp _ _ _ _ ((World.alloc (World.alloc (World.alloc w (.cells (v8 nm) 22)) (.cells (v8 (zer 32)) 24)) (.cells (v8 (zer 4)) 66)))
  generalize (World.alloc (World.alloc (World.alloc w (.cells (v8 nm) 22)) (.cells (v8 (zer 32)) 24)) (.cells (v8 (zer 4)) 66)) = w1 at r0 r1 r2 b1 ⊢
  have hby1 := (hby.below b1).take 4
  have hcl4 : (sig.take 4).length = min len 4 := by rw [List.length_take, hsl, Nat.min_comm]
  go_upto_region 3 with (refine copy8 (.tmp 16) (.tmp 17) 28 28 (by rfl) (by rfl) 5 Tryd.underlying28 (by kernel_rfl) (some ⟨w.heap.size + 2, 0, none⟩) sp 4 4 len cap (by rfl) (by rfl) (w.heap.size + 2) 0 (zer 4) 66 r2 (sig.take 4) hcl4 (fun _ => rfl) hby1 (by rw [hcl4, zer_len]; omega) ?_)
  simp only [Act.put, List.setIfInBounds_toArray, List.set_cons_succ, List.set_cons_zero]
  have hHd : (spl (zer 4) 0 (sig.take 4)).length = 4 := by rw [spl_length _ _ _ (by rw [hcl4, zer_len]; omega), zer_len]
  have hHd2 : 4 ≤ len → spl (zer 4) 0 (sig.take 4) = sig.take 4 := fun h => by rw [zer_eq, spl_zero, hcl4, show 4 - min len 4 = 0 by omega]; simp
  generalize spl (zer 4) 0 (sig.take 4) = HD at *
  generalize ((sig.take 4).length : Int) = u18
  have q0 := r0.setRowOther (g := w.heap.size + 2) (by omega) (v8 HD)
  have q1 := r1.setRowOther (g := w.heap.size + 2) (by omega) (v8 HD)
  have q2 := r2.setRow (v8 HD)
  have qb := below_setRow (g := w.heap.size + 2) b1 (by omega) (v8 HD)
  generalize w1.setRow (w.heap.size + 2) (v8 HD) = w2 at q0 q1 q2 qb ⊢
  clear r0 r1 r2 b1 hby1 hcl4
  have hq2 := q2.lt
  obtain rfl : HD = sig.take 4 := hHd2 (by omega)
  subst h
  clear hHd2
  have hneb : (((4292 : Nat) : Int) != 4292) = false := by decide
  have hfo : ∀ wx, Calls Tryd.prog 37 #[.int .u32 2] wx fun e w' => e = .returned (.agg (v8 (n4 2))) ∧ Below wx.heap.size wx w' := fun wx => four_any 2 wx
  have hneq : ∀ wx, (binOp .neq 66 (.agg (v8 (sig.take 4))) (.agg (v8 (n4 2)))).run Tryd.prog wx = .ok (.bool true) wx := fun wx => by
    rw [run_neq_bytes wx 66 5 4 _ _ Tryd.underlying66 Tryd.underlying5 (by kernel_rfl) hHd rfl]; simp [hty]
  generalize sig.take 4 = HD at *
  generalize n4 2 = N4 at *
  refine region_tail 7 (by kernel_rfl) (by kernel_rfl) (by kernel_rfl) ?_
  apply Exists.intro
  refine ⟨fun ι _ W hb hc => ?_, fun w6 hb6 => ?_⟩
  · have t2 : ∀ i, Row (W i) (w.heap.size + 2) 66 (v8 HD) := fun i => q2.below (hb i) q2.lt
    simp only [List.take_succ_cons, List.take_zero]
    go_big_quiet_step (fail)
    go_big_quiet_step (fail)
    go_big_quiet_step (fail)
    go_big_quiet_step (fail)
    refine q_load_rowW 66 (.tmp 10) (by rfl) (by kernel_rfl) (w.heap.size + 2) (by rfl) 66 _ _ t2 Tryd.underlying66 rfl (a4_info hHd) ?_
    simp only [Act.put, List.setIfInBounds_toArray, List.set_cons_succ, List.set_cons_zero]
    go_big_quiet_step ((go_at_call 37; exact (hfo _).mono (fun e w' ⟨he, hw⟩ => ⟨he, hc _ _ hw⟩)))
    go_big_quiet_step (fail)
    exact wpQuiet_nil rfl
  · simp only [List.drop_succ_cons, List.drop_zero]
    have v1 := q1.below hb6 q1.lt
    have vb := qb.trans (hb6.mono qb.size)
    go_wp2_with (refine store_row0 24 (.tmp 8) (.tmp 27) (by rfl) (by rfl) (by rfl) (w.heap.size + 1) (v8 (zer 32)) (by rfl) (by rfl) 24 _ v1 (id_info (zer_len 32)) rfl (v8_one _) ?_)
    exact bodyPost_ret (results_row_tmp Tryd.results18 _ _ (w.heap.size + 1) 24 (v8 (zer 32)) _ rfl (v1.setRow _) Tryd.underlying24 rfl (id_info (zer_len 32))) rfl ⟨rfl, below_setRow vb (by omega) _⟩

set_option maxRecDepth 20000 in
set_option maxHeartbeats 400000 in
theorem Back_ok (S : List Int → List Int) (hS : Hash S) (msg : List Int) (nm sig : List Int) (q : Int) (mp sp : Option Addr) (ml mc len cap : Nat) (w : World) (hL : Laid w) (hn : nm.length = 16) (hml : msg.length = ml) (hmm : ml ≤ 17592186044416) (hmb : Bytes w mp msg) (hsl : sig.length = len) (hcp : len ≤ cap) (hby : Bytes w sp sig) (h : len = 4292) (hty : sig.take 4 = n4 2) :
    Calls Tryd.prog 18 #[.agg (v8 nm), .int .i64 q, .slice mp ml mc, .slice sp len cap] w fun e w' => e = .returned (.tuple #[.agg (v8 (backL S (nm ++ n4 q) msg sig)), .int .i64 0]) ∧ Below w.heap.size w w' := by
  have hlo := fun wx => leafOf_any nm q wx hn
  have hH : (nm ++ n4 q).length = 20 := by rw [List.length_append, hn, n4_len]
  generalize nm ++ n4 q = H at *
  have hat : ∀ (k : Nat) wx, Bytes wx sp sig → k + 32 ≤ 4292 → Calls Tryd.prog 40 #[.slice sp len cap, .int .i64 (k : Int)] wx fun e w' => e = .returned (.agg (v8 (cutL sig k))) ∧ Below wx.heap.size wx w' := fun k wx hb hk => hashAt_any sig sp len cap k wx hsl hcp (by omega) hb
  have hat4 : ∀ wx, Bytes wx sp sig → Calls Tryd.prog 40 #[.slice sp len cap, .int .i64 4] wx fun e w' => e = .returned (.agg (v8 (cutL sig 4))) ∧ Below wx.heap.size wx w' := fun wx hb => hat 4 wx hb (by omega)
  have hcut : ∀ k, k + 32 ≤ 4292 → (cutL sig k).length = 32 := fun k hk => by unfold cutL; simp; omega
  have htx : ∀ wx, Laid wx → Bytes wx mp msg → Calls Tryd.prog 39 #[.agg (v8 H), .agg (v8 (cutL sig 4)), .slice mp ml mc] wx fun e w' => e = .returned (.agg (v8 (textL S H (cutL sig 4) msg))) ∧ Below wx.heap.size wx w' := fun wx hl hb =>
    text_any S hS H (cutL sig 4) msg mp ml mc wx hl hH (hcut 4 (by omega)) hml hmm hb
  have hbk : backL S H msg sig = topL S H (wL S H (textL S H (cutL sig 4) msg) sig) := rfl
  rw [hbk]
  clear hbk
  have hQl : (textL S H (cutL sig 4) msg).length = 32 := hS.len _
  have hQ8 : In8 (textL S H (cutL sig 4) msg) := hS.in8 _
  generalize textL S H (cutL sig 4) msg = Q at *
  have hdg : ∀ wx, Calls Tryd.prog 38 #[.agg (v8 Q)] wx fun e w' => e = .returned (.agg (v64 (digsL Q))) ∧ Below wx.heap.size wx w' := fun wx => digits_any Q wx hQl hQ8
  have hidx : ∀ k : Nat, k < 133 → ∀ wx, (Instr.index 69 (.agg (v64 (digsL Q))) (.int .i64 (k : Int))).run Tryd.prog wx = .ok (.int .i64 (digN (fullL Q) k)) wx := fun k hk wx =>
    run_index_row 69 3 133 .i64 _ .i64 k _ Tryd.underlying69 Tryd.underlying3 (by kernel_rfl) hk (by rw [v64_at (by rw [digsL_len]; exact hk), digsL_at Q k hk])
  have hw : ∀ (k : Nat) wx, Laid wx → k < 133 → Calls Tryd.prog 30 #[.agg (v8 H), .int .i64 (k : Int), .int .i64 (digN (fullL Q) k), .int .i64 3, .agg (v8 (cutL sig (36 + k * 32)))] wx fun e w' => e = .returned (.agg (v8 (wL S H Q sig k))) ∧ Below wx.heap.size wx w' := fun k wx hl hk => by
    have hd := digN_nat (fullL Q) k
    have := walk_any S hS H (cutL sig (36 + 32 * k)) k (digN (fullL Q) k).toNat 3 wx hl hH (hcut _ (by omega)) (by omega) (by omega) (by omega)
    rw [hd.1] at this
    rw [show 36 + k * 32 = 36 + 32 * k by omega]
    exact this
  have hatk : ∀ (k : Nat) wx, Bytes wx sp sig → k < 133 → Calls Tryd.prog 40 #[.slice sp len cap, .int .i64 (36 + (k : Int) * 32)] wx fun e w' => e = .returned (.agg (v8 (cutL sig (36 + k * 32)))) ∧ Below wx.heap.size wx w' := fun k wx hb hk => by
    have := hat (36 + k * 32) wx hb (by omega)
    rwa [show ((36 + k * 32 : Nat) : Int) = 36 + (k : Int) * 32 by omega] at this
  clear hat
  have hyl : ∀ i, i < 133 → (wL S H Q sig i).length = 32 := fun i hi => by
    unfold wL
    exact walkL_len (fun l => hS.len l) _ _ _ _ (hcut _ (by omega)) _
  obtain ⟨Y, hY⟩ : ∃ Y : Nat → List Int, Y = fun i => if i < 133 then wL S H Q sig i else zer 32 := ⟨_, rfl⟩
  have hYw : ∀ k, k < 133 → wL S H Q sig k = Y k := fun k hk => by rw [hY]; simp [hk]
  have hYl : ∀ i, (Y i).length = 32 := fun i => by
    rw [hY]
    by_cases hi : i < 133
    · simp only [hi, if_true]; exact hyl i hi
    · simp only [hi, if_false]; exact zer_len 32
  have htop : topL S H (wL S H Q sig) = topL S H Y := by unfold topL; rw [catN_congr 133 hYw]
  rw [htop]
  clear htop hY hyl
  have hw' : ∀ (k : Nat) wx, Laid wx → k < 133 → Calls Tryd.prog 30 #[.agg (v8 H), .int .i64 (k : Int), .int .i64 (digN (fullL Q) k), .int .i64 3, .agg (v8 (cutL sig (36 + k * 32)))] wx fun e w' => e = .returned (.agg (v8 (Y k))) ∧ Below wx.heap.size wx w' := fun k wx hl hk => by
    have := hw k wx hl hk
    rwa [hYw k hk] at this
  clear hw hYw
  have hpub : ∀ wx, Laid wx → Calls Tryd.prog 32 #[.agg (v8 H), .agg (v8 (catN Y 133))] wx fun e w' => e = .returned (.agg (v8 (topL S H Y))) ∧ Below wx.heap.size wx w' := fun wx hl => public_any S hS H Y wx hl hH hYl
  have hPl : (topL S H Y).length = 32 := hS.len _
  have hcl' : Hid (∀ k, (catN Y k).length = 32 * k) := catN_len hYl
  have hC0 : catN Y 0 = [] := rfl
  have hCs' : Hid (∀ k, catN Y (k + 1) = catN Y k ++ Y k) := fun _ => rfl
  generalize catN Y = C at *
  generalize topL S H Y = PK at *
  generalize digsL Q = DG at *
  generalize digN (fullL Q) = D at *
  have hc4 : (cutL sig 4).length = 32 := hcut 4 (by omega)
  have hcutk : ∀ k, k < 133 → (cutL sig (36 + k * 32)).length = 32 := fun k hk => hcut _ (by omega)
  clear hcut
  generalize cutL sig = CU at *
  have z20 := zv20
  have z4256 := zv4256
  have z32 := zv32
  have z4 := zv4
  go_enter Tryd.func18, Tryd.ntmps18
  go_upto_region 2 with fail
  have r0 : Row (World.alloc (World.alloc (World.alloc w (.cells (v8 nm) 22)) (.cells (v8 (zer 32)) 24)) (.cells (v8 (zer 4)) 66)) w.heap.size 22 (v8 nm) := ((Row.new _ _ _).alloc _).alloc _
  have r1 : Row (World.alloc (World.alloc (World.alloc w (.cells (v8 nm) 22)) (.cells (v8 (zer 32)) 24)) (.cells (v8 (zer 4)) 66)) (w.heap.size + 1) 24 (v8 (zer 32)) := (Row.newAt _ _ _ _ (by simp)).alloc _
  have r2 : Row (World.alloc (World.alloc (World.alloc w (.cells (v8 nm) 22)) (.cells (v8 (zer 32)) 24)) (.cells (v8 (zer 4)) 66)) (w.heap.size + 2) 66 (v8 (zer 4)) := Row.newAt _ _ _ _ (by simp)
  have b1 : Below w.heap.size w (World.alloc (World.alloc (World.alloc w (.cells (v8 nm) 22)) (.cells (v8 (zer 32)) 24)) (.cells (v8 (zer 4)) 66)) := (((Below.refl _ _).alloc (Nat.le_refl _) _).alloc (by simp) _).alloc (by simp; omega) _
  change Code.wp _ _ _ _ ((World.alloc (World.alloc (World.alloc w (.cells (v8 nm) 22)) (.cells (v8 (zer 32)) 24)) (.cells (v8 (zer 4)) 66)))
  generalize (World.alloc (World.alloc (World.alloc w (.cells (v8 nm) 22)) (.cells (v8 (zer 32)) 24)) (.cells (v8 (zer 4)) 66)) = w1 at r0 r1 r2 b1 ⊢
  have hby1 := (hby.below b1).take 4
  have hcl4 : (sig.take 4).length = min len 4 := by rw [List.length_take, hsl, Nat.min_comm]
  go_upto_region 3 with (refine copy8 (.tmp 16) (.tmp 17) 28 28 (by rfl) (by rfl) 5 Tryd.underlying28 (by kernel_rfl) (some ⟨w.heap.size + 2, 0, none⟩) sp 4 4 len cap (by rfl) (by rfl) (w.heap.size + 2) 0 (zer 4) 66 r2 (sig.take 4) hcl4 (fun _ => rfl) hby1 (by rw [hcl4, zer_len]; omega) ?_)
  simp only [Act.put, List.setIfInBounds_toArray, List.set_cons_succ, List.set_cons_zero]
  have hHd : (spl (zer 4) 0 (sig.take 4)).length = 4 := by rw [spl_length _ _ _ (by rw [hcl4, zer_len]; omega), zer_len]
  have hHd2 : 4 ≤ len → spl (zer 4) 0 (sig.take 4) = sig.take 4 := fun h => by rw [zer_eq, spl_zero, hcl4, show 4 - min len 4 = 0 by omega]; simp
  generalize spl (zer 4) 0 (sig.take 4) = HD at *
  generalize ((sig.take 4).length : Int) = u18
  have q0 := r0.setRowOther (g := w.heap.size + 2) (by omega) (v8 HD)
  have q1 := r1.setRowOther (g := w.heap.size + 2) (by omega) (v8 HD)
  have q2 := r2.setRow (v8 HD)
  have qb := below_setRow (g := w.heap.size + 2) b1 (by omega) (v8 HD)
  generalize w1.setRow (w.heap.size + 2) (v8 HD) = w2 at q0 q1 q2 qb ⊢
  clear r0 r1 r2 b1 hby1 hcl4
  have hq2 := q2.lt
  obtain rfl : HD = sig.take 4 := hHd2 (by omega)
  subst h
  clear hHd2
  have hneb : (((4292 : Nat) : Int) != 4292) = false := by decide
  rw [hty] at *
  have hfo : ∀ wx, Calls Tryd.prog 37 #[.int .u32 2] wx fun e w' => e = .returned (.agg (v8 (n4 2))) ∧ Below wx.heap.size wx w' := fun wx => four_any 2 wx
  have hneq : ∀ wx, (binOp .neq 66 (.agg (v8 (n4 2))) (.agg (v8 (n4 2)))).run Tryd.prog wx = .ok (.bool false) wx := fun wx => by
    rw [run_neq_bytes wx 66 5 4 _ _ Tryd.underlying66 Tryd.underlying5 (by kernel_rfl) rfl rfl]; simp
  clear hty
  generalize n4 2 = N4 at *
  refine region_tail 7 (by kernel_rfl) (by kernel_rfl) (by kernel_rfl) ?_
  apply Exists.intro
  refine ⟨fun ι _ W hb hc => ?_, fun w6 hb6 => ?_⟩
  · have t2 : ∀ i, Row (W i) (w.heap.size + 2) 66 (v8 N4) := fun i => q2.below (hb i) q2.lt
    simp only [List.take_succ_cons, List.take_zero]
    go_big_quiet_step (fail)
    go_big_quiet_step (fail)
    go_big_quiet_step (fail)
    go_big_quiet_step (fail)
    refine q_load_rowW 66 (.tmp 10) (by rfl) (by kernel_rfl) (w.heap.size + 2) (by rfl) 66 _ _ t2 Tryd.underlying66 rfl (a4_info hHd) ?_
    simp only [Act.put, List.setIfInBounds_toArray, List.set_cons_succ, List.set_cons_zero]
    go_big_quiet_step ((go_at_call 37; exact (hfo _).mono (fun e w' ⟨he, hw⟩ => ⟨he, hc _ _ hw⟩)))
    go_big_quiet_step (fail)
    exact wpQuiet_nil rfl
  · simp only [List.drop_succ_cons, List.drop_zero]
    have r0 := q0.below hb6 q0.lt
    have r1 := q1.below hb6 q1.lt
    have rb := qb.trans (hb6.mono qb.size)
    have hr1 := r1.lt
    clear q0 q1 q2 qb hb6 hq2 hneq hfo
    go_upto_region 6 with (first | (refine wpList_load_row (by rfl) 22 (.tmp 4) (by rfl) w.heap.size (by rfl) 22 (v8 nm) (0, 0) _ r0 Tryd.underlying22 rfl (name_info hn) ?_) | (go_at_call 29; (with_reducible refine Calls.mono (hlo _) ?_); rintro e w3 ⟨rfl, hb3⟩) | (refine store_row0 55 (.tmp 11) (.tmp 30) (by rfl) (by rfl) (by rfl) w3.heap.size (v8 H) (by rfl) (by rfl) 55 (v8 (zer 20)) (Row.new w3 55 _) (leaf_info hH) (by rw [v8_size, v8_size, hH, zer_len]) (v8_one _) ?_))
    have hs3 := hb3.size
    have p1 := ((r1.below hb3 (by omega)).alloc (.cells (v8 (zer 20)) 55)).setRowOther (g := w3.heap.size) (by omega) (v8 H)
    have p3 := (Row.new w3 55 (v8 (zer 20))).setRow (v8 H)
    have pb : Below w.heap.size w ((w3.alloc (.cells (v8 (zer 20)) 55)).setRow w3.heap.size (v8 H)) := below_setRow ((rb.trans (hb3.mono rb.size)).alloc (by omega) _) (by omega) _
    obtain ⟨gl, hgl⟩ : ∃ gl, gl = w3.heap.size := ⟨_, rfl⟩
    have hg : w.heap.size + 1 < gl := by omega
    change Code.wp _ _ _ _ ((w3.alloc (.cells (v8 (zer 20)) 55)).setRow w3.heap.size (v8 H))
    rw [← hgl] at p1 p3 pb ⊢
    generalize ((w3.alloc (.cells (v8 (zer 20)) 55)).setRow gl (v8 H)) = w4 at p1 p3 pb ⊢
    clear hgl r0 r1 rb hb3 hs3 hr1 z20 hlo
    have hp3 := p3.lt
    refine region_alloc 5 24 (v8 (zer 32)) 12 (by kernel_rfl) (by kernel_rfl) (by rfl) (by kernel_rfl) ?hal ?hh
    case hal =>
      intro a w o ho
      cases ho
      kernel_rfl
    case hh =>
      apply Exists.intro
      refine ⟨fun ι _ W hb hc => ?_, fun b w2 hb2 hbel2 hrow => ?_⟩
      · have t3 : ∀ i, Row (W i) gl 55 (v8 H) := fun i => p3.below (hb i) p3.lt
        have tB : ∀ i, Below w.heap.size w (W i) := fun i => pb.trans ((hb i).mono pb.size)
        simp only [List.take_succ_cons, List.take_zero]
        refine q_load_row 55 (.tmp 11) (by rfl) (by rfl) (gl) (by rfl) 55 _ _ t3 Tryd.underlying55 rfl (leaf_info hH) ?_
        simp only [Act.put, List.setIfInBounds_toArray, List.set_cons_succ, List.set_cons_zero]
        go_big_quiet_step (fail)
        go_big_quiet_step ((go_at_call 40; exact (hat4 _ (hby.below (tB _))).mono (fun e w' ⟨he, hw⟩ => ⟨he, hc _ _ hw⟩)))
        go_big_quiet_step (fail)
        go_big_quiet_step ((go_at_call 39; exact (htx _ (hL.below (tB _)) (hmb.below (tB _))).mono (fun e w' ⟨he, hw⟩ => ⟨he, hc _ _ hw⟩)))
        exact wpQuiet_nil rfl
      · simp only [List.drop_succ_cons, List.drop_zero, Act.put, List.setIfInBounds_toArray, List.set_cons_succ, List.set_cons_zero]
        refine store_row0 24 (.tmp 12) (.tmp 35) (by rfl) (by rfl) (by rfl) b (v8 Q) (by rfl) (by rfl) 24 _ hrow (id_info hQl) (by rw [v8_size, v8_size, hQl, zer_len]) (v8_one _) ?_
        have y1 := (p1.below hbel2 (by omega)).setRowOther (g := b) (by omega) (v8 Q)
        have y3 := (p3.below hbel2 (by omega)).setRowOther (g := b) (by omega) (v8 Q)
        have y5 := hrow.setRow (v8 Q)
        have yb := below_setRow (g := b) (pb.trans (hbel2.mono pb.size)) (by have := pb.size; omega) (v8 Q)
        generalize w2.setRow b (v8 Q) = w3 at y1 y3 y5 yb ⊢
        clear p1 p3 pb hbel2 hrow
        have hy3 := y3.lt
        have hy5 := y5.alloc (.cells (v8 (zer 4256)) 58)
        go_wp2_with (first | (refine wpList_load_row (by rfl) 24 (.tmp 12) (by rfl) b (by rfl) 24 (v8 Q) (0, 0) _ hy5 Tryd.underlying24 rfl (id_info hQl) ?_) | (go_at_call 38; (with_reducible refine Calls.mono (hdg _) ?_); rintro e w12 ⟨rfl, hb12⟩))
        have hs12 := hb12.size
        rw [show (w3.alloc (.cells (v8 (zer 4256)) 58)).heap.size = w3.heap.size + 1 by simp] at hs12
        have a1 := (y1.alloc (.cells (v8 (zer 4256)) 58)).below hb12 (by simp; omega)
        have a3 := (y3.alloc (.cells (v8 (zer 4256)) 58)).below hb12 (by simp; omega)
        have a4 := (Row.new w3 58 (v8 (zer 4256))).below hb12 (by simp)
        have ab : Below w.heap.size w w12 := (yb.alloc yb.size (.cells (v8 (zer 4256)) 58)).trans (hb12.mono (by have := yb.size; simp; omega))
        obtain ⟨gk, hgk⟩ : ∃ gk, gk = w3.heap.size := ⟨_, rfl⟩
        have hgg : gl < gk := by omega
        rw [← hgk] at a4 ⊢
        clear hgk y1 y3 y5 yb hy3 hy5 hb12 hs12 z4256 hdg htx hat4
        go_loopw [38] (fun v wr => ∃ k : Nat, k ≤ 133 ∧ v = .int .i64 (k : Int) ∧ Row wr (w.heap.size + 1) 24 (v8 (zer 32)) ∧ Row wr gl 55 (v8 H) ∧ Row wr gk 58 (v8 (C k ++ List.replicate (4256 - 32 * k) 0)) ∧ Below w.heap.size w wr) (fun v _ => 133 - (intOf v).toNat)
        case atStart => exact ⟨0, by omega, rfl, a1, a3, by simpa [hC0, zer] using a4, ab⟩
        case round =>
          clear a1 a3 a4 ab
          obtain ⟨k, hk, rfl, z1, z3, z4, zb⟩ := hrel
          by_cases hlt : k < 133
          · have hCl := hcl'.out k
            have hYk := hYl k
            have hix := hidx k hlt
            have hnx : Hid (spl (C k ++ List.replicate (4256 - 32 * k) 0) (32 * k) (Y k) = C (k + 1) ++ List.replicate (4256 - 32 * (k + 1)) 0) := by
              have := spl_mid (C k) (Y k) (4256 - 32 * k)
              rw [hCl, hYk] at this
              show _ = _
              rw [this, hCs'.out k, show 4256 - 32 * k - 32 = 4256 - 32 * (k + 1) by omega]
            have hAl : (C k ++ List.replicate (4256 - 32 * k) 0).length = 4256 := by rw [List.length_append, hCl]; simp; omega
            generalize C k ++ List.replicate (4256 - 32 * k) 0 = A at *
            obtain ⟨B, hB⟩ : ∃ B, B = C (k + 1) ++ List.replicate (4256 - 32 * (k + 1)) 0 := ⟨_, rfl⟩
            rw [← hB] at hnx
            have hB' : Hid (B = C (k + 1) ++ List.replicate (4256 - 32 * (k + 1)) 0) := hB
            clear hB hCl
            go_upto_region 11 with fail
            refine region_tail 11 (by kernel_rfl) (by kernel_rfl) (by kernel_rfl) ?_
            apply Exists.intro
            refine ⟨fun ι _ W hb hc => ?_, fun w6 hb6 => ?_⟩
            · have t3 : ∀ i, Row (W i) gl 55 (v8 H) := fun i => z3.below (hb i) z3.lt
              have tB : ∀ i, Below w.heap.size w (W i) := fun i => zb.trans ((hb i).mono zb.size)
              simp only [List.take_succ_cons, List.take_zero]
              go_big_quiet_step (fail)
              refine q_load_row 55 (.tmp 11) (by rfl) (by rfl) (gl) (by rfl) 55 _ _ t3 Tryd.underlying55 rfl (leaf_info hH) ?_
              simp only [Act.put, List.setIfInBounds_toArray, List.set_cons_succ, List.set_cons_zero]
              go_big_quiet_step (fail)
              go_big_quiet_step (fail)
              go_big_quiet_step (fail)
              go_big_quiet_step (fail)
              go_big_quiet_step (fail)
              go_big_quiet_step (fail)
              go_big_quiet_step ((go_at_call 40; exact (hatk k _ (hby.below (tB _)) hlt).mono (fun e w' ⟨he, hw⟩ => ⟨he, hc _ _ hw⟩)))
              go_big_quiet_step ((go_at_call 30; exact (hw' k _ (hL.below (tB _)) hlt).mono (fun e w' ⟨he, hw⟩ => ⟨he, hc _ _ hw⟩)))
              go_big_quiet_step (fail)
              exact wpQuiet_nil rfl
            · simp only [List.drop_succ_cons, List.drop_zero]
              have v1 := z1.below hb6 z1.lt
              have v3 := z3.below hb6 z3.lt
              have v4 := z4.below hb6 z4.lt
              have vb := zb.trans (hb6.mono zb.size)
              refine store_mid8 24 (.tmp 52) (.tmp 51) (by rfl) (by rfl) (by rfl) gk (k * 32) (Y k) (by rfl) (by rfl) 58 A v4 (id_info hYk) (by rw [hYk, hAl]; omega) ?_
              rw [show spl A (k * 32) (Y k) = B by rw [show k * 32 = 32 * k by omega]; exact hnx.out]
              have u1 := v1.setRowOther (g := gk) (by omega) (v8 B)
              have u3 := v3.setRowOther (g := gk) (by omega) (v8 B)
              have u4 := v4.setRow (v8 B)
              have ub := below_setRow (g := gk) vb (by omega) (v8 B)
              generalize w6.setRow gk (v8 B) = w7 at u1 u3 u4 ub ⊢
              clear v1 v3 v4 vb z1 z3 z4 zb hb6
              go_wp2
              go_roundw
              case rel => exact ⟨k + 1, by omega, by go_num, u1, u3, by rw [← hB'.out]; exact u4, ub⟩
              case measure => simp [intOf]; omega
          · obtain rfl : k = 133 := by omega
            have z4' : Row wr gk 58 (v8 (C 133)) := by simpa using z4
            clear z4
            have hEl : (C 133).length = 4256 := hcl'.out 133
            have hp := hpub wr (hL.below zb)
            generalize C 133 = E at *
            have hz4 := z4'.lt
            go_wp2_with (first | (refine wpList_load_row (by rfl) 55 (.tmp 11) (by rfl) gl (by rfl) 55 (v8 H) (0, 0) _ z3 Tryd.underlying55 rfl (leaf_info hH) ?_) | (refine wpList_load_row (by rfl) 58 (.tmp 13) (by rfl) gk (by rfl) 58 (v8 E) (0, 0) _ z4' Tryd.underlying58 rfl (links_info hEl) ?_) | (go_at_call 32; (with_reducible refine Calls.mono hp ?_); rintro e w8 ⟨rfl, hb8⟩) | (refine store_row0 24 (.tmp 8) (.tmp 56) (by rfl) (by rfl) (by rfl) (w.heap.size + 1) (v8 PK) (by rfl) (by rfl) 24 _ (z1.below hb8 (by omega)) (id_info hPl) (by rw [v8_size, v8_size, hPl, zer_len]) (v8_one _) ?_))
            exact bodyPost_ret (results_row_tmp Tryd.results18 _ _ (w.heap.size + 1) 24 (v8 PK) _ rfl ((z1.below hb8 (by omega)).setRow _) Tryd.underlying24 rfl (id_info hPl)) rfl ⟨rfl, below_setRow (zb.trans (hb8.mono zb.size)) (by omega) _⟩
end Go.Proofs.YtoebnkepeledmaaDoor
