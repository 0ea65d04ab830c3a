/- Of ots: a chain's start, a walk along a chain, the hash of a text, a hash out of a signature, a digit. No old memory turns. -/
import Derived.Test.YtoebnkepeledmaaDoorOtsB
import Derived.Test.YtoebnkepeledmaaDoorOtsL
import Derived.Test.YtoebnkepeledmaaDoorPair
namespace Go.Proofs.YtoebnkepeledmaaDoor
open Go.RowKit

def In8 (l : List Int) : Prop := ∀ j, 0 ≤ gi l j ∧ gi l j < 256
theorem in8_of_all {l : List Int} (h : ∀ x ∈ l, 0 ≤ x ∧ x < 256) : In8 l := fun j => by
  unfold gi
  by_cases hj : j < l.length
  · have : l.getD j 0 = l[j] := by simp [hj]
    rw [this]; exact h _ (List.getElem_mem hj)
  · have : l.getD j 0 = 0 := by simp [List.getElem?_eq_none (show l.length ≤ j by omega)]
    rw [this]; omega
theorem all_spl {l cs : List Int} (off : Nat) (h : ∀ x ∈ l, 0 ≤ x ∧ x < 256) (hc : ∀ x ∈ cs, 0 ≤ x ∧ x < 256) : ∀ x ∈ spl l off cs, 0 ≤ x ∧ x < 256 := fun x hx => by
  unfold spl at hx
  rcases List.mem_append.1 hx with hx | hx
  · exact h x (List.mem_of_mem_take hx)
  · rcases List.mem_append.1 hx with hx | hx
    · exact hc x hx
    · exact h x (List.mem_of_mem_drop hx)
theorem all_wbytes (x : Int) : ∀ y ∈ wbytes x, 0 ≤ y ∧ y < 256 := fun y hy => by
  simp only [wbytes, List.mem_cons, List.not_mem_nil, or_false] at hy
  rcases hy with rfl | rfl | rfl | rfl <;> omega
theorem all_idN (s : S8) : ∀ k, ∀ x ∈ idN s k, 0 ≤ x ∧ x < 256
  | 0 => fun x hx => by have := List.eq_of_mem_replicate hx; omega
  | k + 1 => all_spl _ (all_idN s k) (all_wbytes _)
theorem shaS_length (bs : List Int) : (shaS bs).length = 32 := idN_length _ 8 (by omega)
theorem shaS_in8 (bs : List Int) : In8 (shaS bs) := in8_of_all (all_idN _ 8)


theorem Hash.in8 {S : List Int → List Int} (h : Hash S) (l : List Int) : In8 (S l) := by subst h; exact shaS_in8 l
theorem Hash.pair {S : List Int → List Int} (h : Hash S) (xa xb : List Int) (sa sb : Option Addr) (la ca lb cb : Nat) (w : World) (hla : xa.length = la) (hlb : xb.length = lb) (hmax : la + lb ≤ 35184372088832) (hl : Laid w) (ha : Bytes w sa xa) (hb : Bytes w sb xb) :
    Calls Tryd.prog 63 #[.slice sa la ca, .slice sb lb cb] w fun e w' => e = .returned (.agg (v8 (S (xa ++ xb)))) ∧ Below w.heap.size w w' := by subst h; exact pair_any xa xb sa sb la ca lb cb w hla hlb hmax hl ha hb
theorem id_info {l : List Int} (h : l.length = 32) : (Tryd.prog.info? 24).map (·.size) = some (v8 l).size := by rw [v8_size, h]; kernel_rfl
theorem leaf_info {l : List Int} (h : l.length = 20) : (Tryd.prog.info? 55).map (·.size) = some (v8 l).size := by rw [v8_size, h]; kernel_rfl

set_option maxRecDepth 20000 in
set_option maxHeartbeats 1000000 in
theorem start_any (S : List Int → List Int) (hS : Hash S) (H t : List Int) (i : Int) (w : World) (hL : Laid w) (hH : H.length = 20) (ht : t.length = 32) (hi0 : 0 ≤ i) (hi1 : i < 65536) :
    Calls Tryd.prog 31 #[.agg (v8 H), .int .i64 i, .agg (v8 t)] w fun e w' => e = .returned (.agg (v8 (xL S H t i))) ∧ Below w.heap.size w w' := by
  have hx : (xL S H t i).length = 32 := hS.len _
  have hst : ∀ wx, Laid wx → Calls Tryd.prog 57 #[.agg (v8 H), .int .i64 i, .int .i64 255, .agg (v8 t)] wx fun e w' => e = .returned (.agg (v8 (xL S H t i))) ∧ Below wx.heap.size wx w' := fun wx hl => step_any S hS H t i 255 wx hl hH ht hi0 hi1 (by omega) (by omega)
  generalize xL S H t i = X at *
  go_enter Tryd.func31, Tryd.ntmps31
  go_upto_region 1 with fail
  have r0 : Row (World.alloc (World.alloc (World.alloc w (.cells (v8 H) 55)) (.cells (v8 t) 24)) (.cells (v8 (List.replicate 32 0)) 24)) w.heap.size 55 (v8 H) := ((Row.new _ _ _).alloc _).alloc _
  have r1 : Row (World.alloc (World.alloc (World.alloc w (.cells (v8 H) 55)) (.cells (v8 t) 24)) (.cells (v8 (List.replicate 32 0)) 24)) (w.heap.size + 1) 24 (v8 t) := (Row.newAt _ _ _ _ (by simp)).alloc _
  have r2 : Row (World.alloc (World.alloc (World.alloc w (.cells (v8 H) 55)) (.cells (v8 t) 24)) (.cells (v8 (List.replicate 32 0)) 24)) (w.heap.size + 2) 24 (v8 (List.replicate 32 0)) := Row.newAt _ _ _ _ (by simp)
  have b1 : Below w.heap.size w (World.alloc (World.alloc (World.alloc w (.cells (v8 H) 55)) (.cells (v8 t) 24)) (.cells (v8 (List.replicate 32 0)) 24)) := (((Below.refl _ _).alloc (Nat.le_refl _) _).alloc (by simp) _).alloc (by simp; omega) _
  change Code.wp _ _ _ _ ((World.alloc (World.alloc (World.alloc w (.cells (v8 H) 55)) (.cells (v8 t) 24)) (.cells (v8 (List.replicate 32 0)) 24)))
  generalize (World.alloc (World.alloc (World.alloc w (.cells (v8 H) 55)) (.cells (v8 t) 24)) (.cells (v8 (List.replicate 32 0)) 24)) = w1 at r0 r1 r2 b1 ⊢
  have hr2 := r2.lt
  go_wp2_with (first | (refine wpList_load_row (by rfl) 55 (.tmp 3) (by rfl) w.heap.size (by rfl) 55 (v8 H) (0, 0) _ r0 Tryd.underlying55 rfl (leaf_info hH) ?_) | (refine wpList_load_row (by rfl) 24 (.tmp 5) (by rfl) (w.heap.size + 1) (by rfl) 24 (v8 t) (0, 0) _ r1 Tryd.underlying24 rfl (id_info ht) ?_) | (go_at_call 57; (with_reducible refine Calls.mono (hst _ (hL.below b1)) ?_); rintro e w3 ⟨rfl, hb3⟩) | (refine store_row0 24 (.tmp 6) (.tmp 10) (by rfl) (by rfl) (by rfl) (w.heap.size + 2) (v8 X) (by rfl) (by rfl) 24 _ (r2.below hb3 (by omega)) (id_info hx) (by rw [v8_size, v8_size, hx]; simp) (v8_one _) ?_))
  exact bodyPost_ret (results_cell_row Tryd.results31 _ _ (w.heap.size + 2) 24 (v8 X) (0, 0) _ rfl ((r2.below hb3 (by omega)).setRow _) Tryd.underlying24 rfl (id_info hx)) rfl ⟨rfl, below_setRow (b1.trans (hb3.mono b1.size)) (by omega) _⟩

set_option maxRecDepth 20000 in
set_option maxHeartbeats 1000000 in
theorem walk_any (S : List Int → List Int) (hS : Hash S) (H t : List Int) (i : Int) (a b : Nat) (w : World) (hL : Laid w) (hH : H.length = 20) (ht : t.length = 32) (hi0 : 0 ≤ i) (hi1 : i < 65536) (hb : b ≤ 256) :
    Calls Tryd.prog 30 #[.agg (v8 H), .int .i64 i, .int .i64 (a : Int), .int .i64 (b : Int), .agg (v8 t)] w fun e w' => e = .returned (.agg (v8 (walkL S H i a (b - a) t))) ∧ Below w.heap.size w w' := by
  have hlen := walkL_len (fun l => hS.len l) H i a t ht
  have hst : ∀ wx k, Laid wx → a + k < b → Calls Tryd.prog 57 #[.agg (v8 H), .int .i64 i, .int .i64 ((a : Int) + (k : Int)), .agg (v8 (walkL S H i a k t))] wx fun e w' => e = .returned (.agg (v8 (walkL S H i a (k + 1) t))) ∧ Below wx.heap.size wx w' := fun wx k hl hk => by
    have := step_any S hS H (walkL S H i a k t) i ((a + k : Nat) : Int) wx hl hH (hlen k) hi0 hi1 (by omega) (by omega)
    rwa [Int.natCast_add] at this
  generalize hT : walkL S H i a = T at *
  have hT0 : T 0 t = t := by rw [← hT]; rfl
  clear hT
  go_enter Tryd.func30, Tryd.ntmps30
  go_upto_region 1 with fail
  have r0 : Row (World.alloc (World.alloc (World.alloc w (.cells (v8 H) 55)) (.cells (v8 t) 24)) (.cells (v8 (List.replicate 32 0)) 24)) w.heap.size 55 (v8 H) := ((Row.new _ _ _).alloc _).alloc _
  have r1 : Row (World.alloc (World.alloc (World.alloc w (.cells (v8 H) 55)) (.cells (v8 t) 24)) (.cells (v8 (List.replicate 32 0)) 24)) (w.heap.size + 1) 24 (v8 t) := (Row.newAt _ _ _ _ (by simp)).alloc _
  have r2 : Row (World.alloc (World.alloc (World.alloc w (.cells (v8 H) 55)) (.cells (v8 t) 24)) (.cells (v8 (List.replicate 32 0)) 24)) (w.heap.size + 2) 24 (v8 (List.replicate 32 0)) := Row.newAt _ _ _ _ (by simp)
  have b1 : Below w.heap.size w (World.alloc (World.alloc (World.alloc w (.cells (v8 H) 55)) (.cells (v8 t) 24)) (.cells (v8 (List.replicate 32 0)) 24)) := (((Below.refl _ _).alloc (Nat.le_refl _) _).alloc (by simp) _).alloc (by simp; omega) _
  change Code.wp _ _ _ _ ((World.alloc (World.alloc (World.alloc w (.cells (v8 H) 55)) (.cells (v8 t) 24)) (.cells (v8 (List.replicate 32 0)) 24)))
  generalize (World.alloc (World.alloc (World.alloc w (.cells (v8 H) 55)) (.cells (v8 t) 24)) (.cells (v8 (List.replicate 32 0)) 24)) = w1 at r0 r1 r2 b1 ⊢
  go_wp2
  go_loopw [11] (fun v wr => ∃ k : Nat, (k = 0 ∨ a + k ≤ b) ∧ v = .int .i64 ((a : Int) + (k : Int)) ∧ Row wr w.heap.size 55 (v8 H) ∧ Row wr (w.heap.size + 1) 24 (v8 (T k t)) ∧ Row wr (w.heap.size + 2) 24 (v8 (List.replicate 32 0)) ∧ Below w.heap.size w wr) (fun v _ => b - (intOf v).toNat)
  case atStart => exact ⟨0, Or.inl rfl, by simp, r0, by rw [hT0]; exact r1, r2, b1⟩
  case round =>
    clear r0 r1 r2 b1
    obtain ⟨k, hk, rfl, q0, q1, q2, qb⟩ := hrel
    have hq2 := q2.lt
    by_cases hlt : a + k < b
    · have d1 : decide ((a : Int) + (k : Int) < (b : Int)) = true := by simp; omega
      have d2 : (a : Int) + (k : Int) < (b : Int) := by omega
      have hc := hst wr k (hL.below qb) hlt
      have hl1 := hlen (k + 1)
      go_wp2_with (first | (refine wpList_load_row (by rfl) 55 (.tmp 5) (by rfl) w.heap.size (by rfl) 55 (v8 H) (0, 0) _ q0 Tryd.underlying55 rfl (leaf_info hH) ?_) | (refine wpList_load_row (by rfl) 24 (.tmp 9) (by rfl) (w.heap.size + 1) (by rfl) 24 (v8 (T k t)) (0, 0) _ q1 Tryd.underlying24 rfl (id_info (hlen k)) ?_) | (go_at_call 57; (with_reducible refine Calls.mono hc ?_); rintro e w3 ⟨rfl, hb3⟩) | (refine store_row0 24 (.tmp 9) (.tmp 22) (by rfl) (by rfl) (by rfl) (w.heap.size + 1) (v8 (T (k + 1) t)) (by rfl) (by rfl) 24 _ (q1.below hb3 (by omega)) (id_info hl1) (by rw [v8_size, v8_size, hl1, hlen k]) (v8_one _) ?_))
      go_roundw
      case rel => exact ⟨k + 1, Or.inr (by omega), by go_num, (q0.below hb3 (by omega)).setRowOther (by omega) _, (q1.below hb3 (by omega)).setRow _, (q2.below hb3 (by omega)).setRowOther (by omega) _, below_setRow (qb.trans (hb3.mono qb.size)) (by omega) _⟩
      case measure => simp [intOf]; omega
    · have d1 : decide ((a : Int) + (k : Int) < (b : Int)) = false := by simp; omega
      have d2 : ¬ (a : Int) + (k : Int) < (b : Int) := by omega
      have hkk : b - a = k := by omega
      have hl1 := hlen k
      go_wp2_with (first | (refine wpList_load_row (by rfl) 24 (.tmp 9) (by rfl) (w.heap.size + 1) (by rfl) 24 (v8 (T k t)) (0, 0) _ q1 Tryd.underlying24 rfl (id_info hl1) ?_) | (refine store_row0 24 (.tmp 10) (.tmp 23) (by rfl) (by rfl) (by rfl) (w.heap.size + 2) (v8 (T k t)) (by rfl) (by rfl) 24 _ q2 (id_info hl1) (by rw [v8_size, v8_size, hl1]; simp) (v8_one _) ?_))
      exact bodyPost_ret (results_cell_row Tryd.results30 _ _ (w.heap.size + 2) 24 (v8 (T k t)) (0, 0) _ rfl (q2.setRow _) Tryd.underlying24 rfl (id_info hl1)) rfl ⟨rfl, below_setRow qb (by omega) _⟩

set_option maxRecDepth 20000 in
set_option maxHeartbeats 1000000 in
theorem text_any (S : List Int → List Int) (hS : Hash S) (H c msg : List Int) (sp : Option Addr) (len cap : Nat) (w : World) (hL : Laid w) (hH : H.length = 20) (hc : c.length = 32) (hm : msg.length = len) (hmax : len ≤ 17592186044416) (hby : Bytes w sp msg) :
    Calls Tryd.prog 39 #[.agg (v8 H), .agg (v8 c), .slice sp len cap] w fun e w' => e = .returned (.agg (v8 (textL S H c msg))) ∧ Below w.heap.size w w' := by
  have hHl : (H ++ n2 33153).length = 22 := by rw [List.length_append, hH, n2_len]
  have h95 : (Tryd.prog.info? 95).map (·.size) = some (v8 (H ++ n2 33153)).size := by rw [v8_size, hHl]; kernel_rfl
  have hT : textL S H c msg = S (H ++ n2 33153 ++ c ++ msg) := rfl
  rw [hT]
  clear hT
  have hhead : ∀ wx, Calls Tryd.prog 58 #[.agg (v8 H), .int .u16 33153] wx fun e w' => e = .returned (.agg (v8 (H ++ n2 33153))) ∧ Below wx.heap.size wx w' := fun wx => head_any H 33153 wx hH
  generalize hX0 : H ++ n2 33153 = X0 at *
  go_enter Tryd.func39, Tryd.ntmps39
  go_upto_region 2 with fail
  have r0 : Row (World.alloc (World.alloc (World.alloc (World.alloc w (.cells (v8 H) 55)) (.cells (v8 c) 24)) (.cells (v8 (List.replicate 32 0)) 24)) (.cells (v8 (List.replicate 54 0)) 105)) w.heap.size 55 (v8 H) := (((Row.new _ _ _).alloc _).alloc _).alloc _
  have r1 : Row (World.alloc (World.alloc (World.alloc (World.alloc w (.cells (v8 H) 55)) (.cells (v8 c) 24)) (.cells (v8 (List.replicate 32 0)) 24)) (.cells (v8 (List.replicate 54 0)) 105)) (w.heap.size + 1) 24 (v8 c) := ((Row.newAt _ _ _ _ (by simp)).alloc _).alloc _
  have r2 : Row (World.alloc (World.alloc (World.alloc (World.alloc w (.cells (v8 H) 55)) (.cells (v8 c) 24)) (.cells (v8 (List.replicate 32 0)) 24)) (.cells (v8 (List.replicate 54 0)) 105)) (w.heap.size + 2) 24 (v8 (List.replicate 32 0)) := (Row.newAt _ _ _ _ (by simp)).alloc _
  have r3 : Row (World.alloc (World.alloc (World.alloc (World.alloc w (.cells (v8 H) 55)) (.cells (v8 c) 24)) (.cells (v8 (List.replicate 32 0)) 24)) (.cells (v8 (List.replicate 54 0)) 105)) (w.heap.size + 3) 105 (v8 (List.replicate 54 0)) := Row.newAt _ _ _ _ (by simp)
  have b1 : Below w.heap.size w (World.alloc (World.alloc (World.alloc (World.alloc w (.cells (v8 H) 55)) (.cells (v8 c) 24)) (.cells (v8 (List.replicate 32 0)) 24)) (.cells (v8 (List.replicate 54 0)) 105)) := ((((Below.refl _ _).alloc (Nat.le_refl _) _).alloc (by simp) _).alloc (by simp; omega) _).alloc (by simp; omega) _
  change Code.wp _ _ _ _ ((World.alloc (World.alloc (World.alloc (World.alloc w (.cells (v8 H) 55)) (.cells (v8 c) 24)) (.cells (v8 (List.replicate 32 0)) 24)) (.cells (v8 (List.replicate 54 0)) 105)))
  generalize (World.alloc (World.alloc (World.alloc (World.alloc w (.cells (v8 H) 55)) (.cells (v8 c) 24)) (.cells (v8 (List.replicate 32 0)) 24)) (.cells (v8 (List.replicate 54 0)) 105)) = w1 at r0 r1 r2 r3 b1 ⊢
  have hr3 := r3.lt
  go_upto_region 3 with (first | (refine wpList_load_row (by rfl) 55 (.tmp 3) (by rfl) w.heap.size (by rfl) 55 (v8 H) (0, 0) _ r0 Tryd.underlying55 rfl (leaf_info hH) ?_) | (go_at_call 58; (with_reducible refine Calls.mono (hhead _) ?_); rintro e w3 ⟨rfl, hb3⟩) | (refine store_row0 95 (.tmp 8) (.tmp 10) (by rfl) (by rfl) (by rfl) w3.heap.size (v8 X0) (by rfl) (by rfl) 95 (v8 (List.replicate 22 0)) (Row.new w3 95 _) h95 (by rw [v8_size, v8_size, hHl]; simp) (v8_one _) ?_))
  have hs3 := hb3.size
  have p1 := ((r1.below hb3 (by omega)).alloc (.cells (v8 (List.replicate 22 0)) 95)).setRowOther (g := w3.heap.size) (by omega) (v8 X0)
  have p2 := ((r2.below hb3 (by omega)).alloc (.cells (v8 (List.replicate 22 0)) 95)).setRowOther (g := w3.heap.size) (by omega) (v8 X0)
  have p3 := ((r3.below hb3 (by omega)).alloc (.cells (v8 (List.replicate 22 0)) 95)).setRowOther (g := w3.heap.size) (by omega) (v8 X0)
  have p4 := (Row.new w3 95 (v8 (List.replicate 22 0))).setRow (v8 X0)
  have pb : Below w.heap.size w ((w3.alloc (.cells (v8 (List.replicate 22 0)) 95)).setRow w3.heap.size (v8 X0)) := below_setRow ((b1.trans (hb3.mono b1.size)).alloc (by omega) _) (by omega) _
  change Code.wp _ _ _ _ ((w3.alloc (.cells (v8 (List.replicate 22 0)) 95)).setRow w3.heap.size (v8 X0))
  have hg : w.heap.size + 3 < w3.heap.size := by omega
  generalize (w3.alloc (.cells (v8 (List.replicate 22 0)) 95)).setRow w3.heap.size (v8 X0) = w4 at p1 p2 p3 p4 pb ⊢
  refine wp_region_quiet_tail 2 (by kernel_rfl) (by kernel_rfl) ?_
  simp only [List.take_succ_cons, List.take_zero, List.drop_succ_cons, List.drop_zero]
  repeat (go_big_quiet_step (fail))
  refine wpQuiet_nil ?_
  rintro _ ⟨nq, rfl⟩
  refine copy8 (w := w4.drewN nq) (.tmp 11) (.tmp 12) 28 28 (by rfl) (by rfl) 5 Tryd.underlying28 (by kernel_rfl) (some ⟨w.heap.size + 3, 0, none⟩) (some ⟨w3.heap.size, 0, none⟩) 54 54 22 22 (by rfl) (by rfl) (w.heap.size + 3) (0) (List.replicate 54 0) 105 (p3.drewN nq) X0 (by rw [hHl]; rfl) (fun _ => rfl) ((p4.drewN nq).bytes) (by rw [hHl]; simp) ?_
  simp only [Act.put, List.setIfInBounds_toArray, List.set_cons_succ, List.set_cons_zero]
  rw [spl_zero, hHl]
  have q1 := (p1.drewN nq).setRowOther (g := w.heap.size + 3) (by omega) (v8 (X0 ++ List.replicate (54 - 22) 0))
  have q2 := (p2.drewN nq).setRowOther (g := w.heap.size + 3) (by omega) (v8 (X0 ++ List.replicate (54 - 22) 0))
  have q3 := (p3.drewN nq).setRow (v8 (X0 ++ List.replicate (54 - 22) 0))
  have qb := below_setRow (g := w.heap.size + 3) (below_drewN pb nq) (by omega) (v8 (X0 ++ List.replicate (54 - 22) 0))
  generalize (w4.drewN nq).setRow (w.heap.size + 3) (v8 (X0 ++ List.replicate (54 - 22) 0)) = w5 at q1 q2 q3 qb ⊢
  go_upto_region 4 with fail
  refine wp_region_quiet_tail 2 (by kernel_rfl) (by kernel_rfl) ?_
  simp only [List.take_succ_cons, List.take_zero, List.drop_succ_cons, List.drop_zero]
  repeat (go_big_quiet_step (fail))
  refine wpQuiet_nil ?_
  rintro _ ⟨nq, rfl⟩
  refine copy8 (w := w5.drewN nq) (.tmp 14) (.tmp 15) 28 28 (by rfl) (by rfl) 5 Tryd.underlying28 (by kernel_rfl) (some ⟨w.heap.size + 3, 22, none⟩) (some ⟨w.heap.size + 1, 0, none⟩) 32 32 32 32 (by rfl) (by rfl) (w.heap.size + 3) (22) (X0 ++ List.replicate (54 - 22) 0) 105 (q3.drewN nq) c (by rw [hc]; rfl) (fun _ => rfl) ((q1.drewN nq).bytes) (by rw [List.length_append, hHl, hc]; simp) ?_
  simp only [Act.put, List.setIfInBounds_toArray, List.set_cons_succ, List.set_cons_zero]
  rw [show spl (X0 ++ List.replicate (54 - 22) 0) 22 c = X0 ++ c by rw [← hHl]; exact spl_end _ _ _ (by rw [hHl, hc])]
  have u2 := (q2.drewN nq).setRowOther (g := w.heap.size + 3) (by omega) (v8 (X0 ++ c))
  have u3 := (q3.drewN nq).setRow (v8 (X0 ++ c))
  have ub := below_setRow (g := w.heap.size + 3) (below_drewN qb nq) (by omega) (v8 (X0 ++ c))
  generalize (w5.drewN nq).setRow (w.heap.size + 3) (v8 (X0 ++ c)) = w7 at u2 u3 ub ⊢
  have hl4 : (X0 ++ c).length = 54 := by rw [List.length_append, hHl, hc]
  generalize hX : X0 ++ c = X at *
  have hpair := hS.pair X msg (some ⟨w.heap.size + 3, 0, none⟩) sp 54 54 len cap w7 hl4 hm (by omega) (hL.below ub) u3.bytes (hby.below ub)
  have hsl := hS.len (X ++ msg)
  have hu3 := u3.lt
  go_wp2_with (first | (go_at_call 63; (with_reducible refine Calls.mono hpair ?_); rintro e w8 ⟨rfl, hb8⟩) | (refine store_row0 24 (.tmp 6) (.tmp 19) (by rfl) (by rfl) (by rfl) (w.heap.size + 2) (v8 (S (X ++ msg))) (by rfl) (by rfl) 24 _ (u2.below hb8 (by omega)) (id_info hsl) (by rw [v8_size, v8_size, hsl]; simp) (v8_one _) ?_))
  exact bodyPost_ret (results_cell_row Tryd.results39 _ _ (w.heap.size + 2) 24 (v8 (S (X ++ msg))) (0, 0) _ rfl ((u2.below hb8 (by omega)).setRow _) Tryd.underlying24 rfl (id_info hsl)) rfl ⟨by rw [← hX, ← hX0], below_setRow (ub.trans (hb8.mono ub.size)) (by omega) _⟩

set_option maxRecDepth 20000 in
set_option maxHeartbeats 1000000 in
theorem hashAt_any (sig : List Int) (sp : Option Addr) (len cap k : Nat) (w : World) (hl : sig.length = len) (hcap : len ≤ cap) (hk : k + 32 ≤ len) (hby : Bytes w sp sig) :
    Calls Tryd.prog 40 #[.slice sp len cap, .int .i64 (k : Int)] w fun e w' => e = .returned (.agg (v8 (cutL sig k))) ∧ Below w.heap.size w w' := by
  obtain ⟨b, o, rfl, _⟩ := hby (by omega)
  have hcl : (cutL sig k).length = 32 := by unfold cutL; simp; omega
  have hsrc : Bytes w (some ⟨b, o + k, none⟩) (cutL sig k) := (Bytes.drop hby k).take 32
  generalize cutL sig k = X at *
  have k1 : (k : Int) ≤ (len : Int) := by omega
  have k2 : (0 : Int) ≤ (k : Int) := by omega
  have k3 : ¬ cap = k := by omega
  go_enter Tryd.func40, Tryd.ntmps40
  go_upto_region 2 with fail
  have r0 : Row (World.alloc (World.alloc w (.cells (v8 (List.replicate 32 0)) 24)) (.cells (v8 (List.replicate 32 0)) 24)) w.heap.size 24 (v8 (List.replicate 32 0)) := (Row.new _ _ _).alloc _
  have r1 : Row (World.alloc (World.alloc w (.cells (v8 (List.replicate 32 0)) 24)) (.cells (v8 (List.replicate 32 0)) 24)) (w.heap.size + 1) 24 (v8 (List.replicate 32 0)) := Row.newAt _ _ _ _ (by simp)
  have b1 : Below w.heap.size w (World.alloc (World.alloc w (.cells (v8 (List.replicate 32 0)) 24)) (.cells (v8 (List.replicate 32 0)) 24)) := ((Below.refl _ _).alloc (Nat.le_refl _) _).alloc (by simp) _
  change Code.wp _ _ _ _ ((World.alloc (World.alloc w (.cells (v8 (List.replicate 32 0)) 24)) (.cells (v8 (List.replicate 32 0)) 24)))
  generalize (World.alloc (World.alloc w (.cells (v8 (List.replicate 32 0)) 24)) (.cells (v8 (List.replicate 32 0)) 24)) = w1 at r0 r1 b1 ⊢
  have hs1 := hsrc.below b1
  refine wp_region_quiet_tail 4 (by kernel_rfl) (by kernel_rfl) ?_
  simp only [List.take_succ_cons, List.take_zero, List.drop_succ_cons, List.drop_zero]
  repeat (go_big_quiet_step (fail))
  refine wpQuiet_nil ?_
  rintro _ ⟨nq, rfl⟩
  refine copy8 (w := w1.drewN nq) (.tmp 6) (.tmp 9) 28 28 (by rfl) (by rfl) 5 Tryd.underlying28 (by kernel_rfl) (some ⟨w.heap.size + 1, 0, none⟩) (some ⟨b, o + k, none⟩) 32 32 (len - k) (cap - k) (by rfl) (by rfl) (w.heap.size + 1) (0) (List.replicate 32 0) 24 (r1.drewN nq) X (by rw [hcl]; omega) (fun _ => rfl) (hs1.drewN nq) (by simp; omega) ?_
  simp only [Act.put, List.setIfInBounds_toArray, List.set_cons_succ, List.set_cons_zero]
  rw [show spl (List.replicate 32 0) 0 X = X by rw [spl_zero, hcl]; simp]
  have q0 := (r0.drewN nq).setRowOther (g := w.heap.size + 1) (by omega) (v8 X)
  have q1 := (r1.drewN nq).setRow (v8 X)
  have qb := below_setRow (g := w.heap.size + 1) (below_drewN b1 nq) (by omega) (v8 X)
  generalize (w1.drewN nq).setRow (w.heap.size + 1) (v8 X) = w2 at q0 q1 qb ⊢
  go_wp2_with (first | (refine wpList_load_row (by rfl) 24 (.tmp 5) (by rfl) (w.heap.size + 1) (by rfl) 24 (v8 X) (0, 0) _ q1 Tryd.underlying24 rfl (id_info hcl) ?_) | (refine store_row0 24 (.tmp 4) (.tmp 11) (by rfl) (by rfl) (by rfl) w.heap.size (v8 X) (by rfl) (by rfl) 24 _ q0 (id_info hcl) (by rw [v8_size, v8_size, hcl]; simp) (v8_one _) ?_))
  exact bodyPost_ret (results_cell_row Tryd.results40 _ _ (w.heap.size) 24 (v8 X) (0, 0) _ rfl (q0.setRow _) Tryd.underlying24 rfl (id_info hcl)) rfl ⟨rfl, below_setRow qb (Nat.le_refl _) _⟩

set_option maxRecDepth 20000 in
set_option maxHeartbeats 1000000 in
theorem digit0 (b : Int) (w : World) (h0 : 0 ≤ b) (h1 : b < 256) :
    Calls Tryd.prog 62 #[.int .u8 b, .int .i64 0] w fun e w' => e = .returned (.int .i64 (b / 2 ^ 6 % 4)) ∧ Below w.heap.size w w' := by
  have h := and3 (b / 64) (by omega) (by omega)
  go_enter Tryd.func62, Tryd.ntmps62
  go_wp2
  go_ret
  exact ⟨rfl, Below.refl _ _⟩

set_option maxRecDepth 20000 in
set_option maxHeartbeats 1000000 in
theorem digit1 (b : Int) (w : World) (h0 : 0 ≤ b) (h1 : b < 256) :
    Calls Tryd.prog 62 #[.int .u8 b, .int .i64 1] w fun e w' => e = .returned (.int .i64 (b / 2 ^ 4 % 4)) ∧ Below w.heap.size w w' := by
  have h := and3 (b / 16) (by omega) (by omega)
  go_enter Tryd.func62, Tryd.ntmps62
  go_wp2
  go_ret
  exact ⟨rfl, Below.refl _ _⟩

set_option maxRecDepth 20000 in
set_option maxHeartbeats 1000000 in
theorem digit2 (b : Int) (w : World) (h0 : 0 ≤ b) (h1 : b < 256) :
    Calls Tryd.prog 62 #[.int .u8 b, .int .i64 2] w fun e w' => e = .returned (.int .i64 (b / 2 ^ 2 % 4)) ∧ Below w.heap.size w w' := by
  have h := and3 (b / 4) (by omega) (by omega)
  go_enter Tryd.func62, Tryd.ntmps62
  go_wp2
  go_ret
  exact ⟨rfl, Below.refl _ _⟩

set_option maxRecDepth 20000 in
set_option maxHeartbeats 1000000 in
theorem digit3 (b : Int) (w : World) (h0 : 0 ≤ b) (h1 : b < 256) :
    Calls Tryd.prog 62 #[.int .u8 b, .int .i64 3] w fun e w' => e = .returned (.int .i64 (b / 2 ^ 0 % 4)) ∧ Below w.heap.size w w' := by
  have h := and3 b (by omega) (by omega)
  go_enter Tryd.func62, Tryd.ntmps62
  go_wp2
  go_ret
  exact ⟨by simp, Below.refl _ _⟩

theorem digit_any (bs : List Int) (i : Nat) (w : World) (h8 : In8 bs) :
    Calls Tryd.prog 62 #[.int .u8 (gi bs (i / 4)), .int .i64 ((i % 4 : Nat) : Int)] w fun e w' => e = .returned (.int .i64 (digN bs i)) ∧ Below w.heap.size w w' := by
  unfold digN
  obtain ⟨h0, h1⟩ := h8 (i / 4)
  rcases (by omega : i % 4 = 0 ∨ i % 4 = 1 ∨ i % 4 = 2 ∨ i % 4 = 3) with h | h | h | h <;> rw [h]
  · exact digit0 _ w h0 h1
  · exact digit1 _ w h0 h1
  · exact digit2 _ w h0 h1
  · exact digit3 _ w h0 h1
end Go.Proofs.YtoebnkepeledmaaDoor
