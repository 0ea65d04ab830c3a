/- ShaSums returns true and turns no old memory, for any two rows of bytes. -/
import Derived.Test.YtjefmnoffekeoaaDoorArg
import Derived.Test.YtjefmnoffekeoaaDoorRef
import Derived.Test.YtjefmnoffekeoaaDoorArrEq
import Derived.Test.YtjefmnoffekeoaaDoorKnown
import Derived.Test.YtjefmnoffekeoaaDoorRText
import Derived.Test.YtjefmnoffekeoaaDoorMild
import Derived.Deep.CutRange
namespace Go.Proofs.YtjefmnoffekeoaaDoor
open Go.RowKit

/-- A whole row, loaded in a family of worlds, where the guard lets the load by. -/
theorem q_load_rowW {P : Program} {ops : Array Oper} {ι : Type} {W : ι → World} {Q : Act → Prop} {rest : List Oper} {o : Oper} {a : Act} (ty : TypeId) (x : Operand) (ho : o.op = .load ty x) (hgd : Region.wanted o (yielded ops a.tmps) = true)
    (g : Nat) (hx : a.eval x = .pointer (some ⟨g, 0, none⟩)) (t : TypeId) (cs : Array Value) (d : TypeDesc) (hr : ∀ i, Row (W i) g t cs)
    (hu : P.underlying ty = some d) (hd : (match d with | .struct _ | .array _ _ => true | _ => false) = true) (hi : (P.info? ty).map (·.size) = some cs.size)
    (h : wpQuiet P ops (fun w' => ∃ i, w' = W i) Q rest (a.put o.dst (.agg cs))) : wpQuiet P ops (fun w' => ∃ i, w' = W i) Q (o :: rest) a := by
  unfold wpQuiet
  rw [if_pos hgd]
  refine ⟨.agg cs, fun w hw => ?_, h⟩
  obtain ⟨i, rfl⟩ := hw
  unfold Oper.quietAt execOp
  simp only [ho, hx, Instr.loadAt, Instr.sureAddr, Sem.run_bind, Sem.run_pure, Result.andThen_ok, run_loadVar_row (W i) g t ty cs (0, 0) d (hr i) hu hd hi]
  exact ⟨rfl, rfl⟩

set_option maxRecDepth 20000 in
set_option maxHeartbeats 1000000 in
theorem sums_early (sa sb : Option Addr) (la ca lb cb : Nat) (w : World) (hL : Laid w) (ha : la ≤ 140737488351232) (hb : lb ≤ 140737488351232) (h : 3000 < la + lb) :
    Calls Tryd.prog 3 #[.slice sa la ca, .slice sb lb cb] w fun e w' => e = .returned (.bool true) ∧ Below w.heap.size w w' := by
  have hk := known_any w hL
  have h1 : (3000 : Int) < (la : Int) + (lb : Int) := by omega
  have h2 : IntKind.i64.wrap ((la : Int) + (lb : Int)) = (la : Int) + (lb : Int) := by rw [IntKind.wrap_i64]; omega
  go_enter Tryd.func3, Tryd.ntmps3
  go_wp2_with (go_at_call 8; refine Calls.mono hk ?_; rintro e w1 ⟨rfl, hb1⟩)
  go_ret
  exact ⟨rfl, hb1⟩

set_option maxRecDepth 20000 in
set_option maxHeartbeats 1000000 in
theorem sums_any (xa xb : List Int) (sa sb : Option Addr) (la ca lb cb : Nat) (w : World) (hL : Laid w) (hla : xa.length = la) (hlb : xb.length = lb) (hca : la ≤ ca) (hna : sa = none → ca = 0 ∧ la = 0) (hnb : sb = none → cb = 0 ∧ lb = 0)
    (hya : Bytes w sa xa) (hyb : Bytes w sb xb) (hm : la + lb ≤ 3000) :
    Calls Tryd.prog 3 #[.slice sa la ca, .slice sb lb cb] w fun e w' => e = .returned (.bool true) ∧ Below w.heap.size w w' := by
  have hk := known_any w hL
  have h1 : ¬ (3000 : Int) < (la : Int) + (lb : Int) := by omega
  have q2 : decide ((3000 : Int) < (la : Int) + (lb : Int)) = false := by simpa using h1
  have h2 : IntKind.i64.wrap ((la : Int) + (lb : Int)) = (la : Int) + (lb : Int) := by rw [IntKind.wrap_i64]; omega
  go_enter Tryd.func3, Tryd.ntmps3
  go_upto_region 6 with (first | (go_at_call 8; refine Calls.mono hk ?_; rintro e w1 ⟨rfl, hb1⟩; have o2 := own8_nil (w1.alloc (.cells #[] 5)) w1.heap.size w1.heap.size (Nat.le_refl _) (Row.new w1 5 #[]); have hby2 : Bytes (w1.alloc (.cells #[] 5)) sa xa := (hya.below hb1).below ((Below.refl _ _).alloc (Nat.le_refl _) _)) | (at_builtin; (refine append8 (.tmp 15) (.tmp 16) 22 5 (by rfl) (by rfl) w1.heap.size Tryd.underlying22 info5 _ [] (by rfl) ?ho sa la ca xa (by rfl) hla hna hby2 (by simp; omega) (by simp) ?_; (case ho => exact o2); intro sp3 cap3 w3 o3 b3; simp only [List.nil_append] at o3 ⊢; simp only [hla] at o3 ⊢; have c3 : Below w1.heap.size w1 w3 := ((Below.refl _ _).alloc (Nat.le_refl _) _).trans b3; have hbb3 : Bytes w3 sb xb := (hyb.below hb1).below c3; have hs3 := c3.size)) | (at_builtin; (refine append8 (.tmp 17) (.tmp 18) 22 5 (by rfl) (by rfl) w1.heap.size Tryd.underlying22 info5 _ xa (by rfl) ?ho sb lb cb xb (by rfl) hlb hnb hbb3 (by omega) hs3 ?_; (case ho => exact o3); intro sp4 cap4 w4 o4 b4; simp only [List.length_append, hla, hlb] at o4 ⊢)))
  have hs1 := hb1.size
  have c4 : Below w1.heap.size w1 w4 := c3.trans b4
  have hY4 : Bytes w4 sp4 (xa ++ xb) := o4.bytes
  have hYl : (xa ++ xb).length = la + lb := by rw [List.length_append, hla, hlb]
  have hcc : la + lb ≤ cap4 := by
    by_cases hz : 0 < la + lb
    · obtain ⟨_, _, _, h, _⟩ := o4.row (by omega)
      exact h
    · omega
  have hn4 : sp4 = none → cap4 = 0 ∧ la + lb = 0 := fun h => by
    subst h
    obtain ⟨_, h⟩ := o4
    rcases h with ⟨h, h0⟩ | ⟨g, cap', cur, hv, _⟩
    · injection h with _ _ h3
      exact ⟨h3, by omega⟩
    · injection hv with e1
      cases e1
  clear o2 o3 b3 hby2 hbb3 o4 b4 c3 hs3
  have d4 : Below w.heap.size w w4 := hb1.trans (c4.mono hs1)
  have hs4 := d4.size
  have hsa := sum_any xa sa la ca w4 hla hca (by omega) (hL.below d4) (hya.below d4)
  have i25 : (Tryd.prog.info? 25).map (·.size) = some (v8 (shaS xa)).size := by rw [v8_size, shaS_length]; kernel_rfl
  have hold : (v8 (List.replicate 32 0)).size = (v8 (shaS xa)).size := by rw [v8_size, v8_size, shaS_length]; simp
  go_upto_region 7 with (first | (go_at_call 9; with_reducible refine Calls.mono hsa ?_; rintro e w5 ⟨rfl, hb5⟩) | (refine store_row0 25 (.tmp 6) (.tmp 21) (by rfl) (by rfl) (by rfl) w5.heap.size (v8 (shaS xa)) (by rfl) (by rfl) 25 (v8 (List.replicate 32 0)) (Row.new w5 25 _) i25 hold (v8_one _) ?_))
  have d5 : Below w.heap.size w w5 := d4.trans (hb5.mono hs4)
  have hs5 := hb5.size
  have rX : Row ((w5.alloc (.cells (v8 (List.replicate 32 0)) 25)).setRow w5.heap.size (v8 (shaS xa))) w5.heap.size 25 (v8 (shaS xa)) := (Row.new w5 25 _).setRow _
  have d6 : Below w.heap.size w ((w5.alloc (.cells (v8 (List.replicate 32 0)) 25)).setRow w5.heap.size (v8 (shaS xa))) := below_setRow (d5.alloc d5.size _) (by omega) _
  have hY6 : Bytes ((w5.alloc (.cells (v8 (List.replicate 32 0)) 25)).setRow w5.heap.size (v8 (shaS xa))) sp4 (xa ++ xb) := (hY4.below hb5).below (below_setRow ((Below.refl _ _).alloc (Nat.le_refl _) _) (Nat.le_refl _) _)
  change Code.wp _ _ _ _ ((w5.alloc (.cells (v8 (List.replicate 32 0)) 25)).setRow w5.heap.size (v8 (shaS xa)))
  obtain ⟨gx, hgx⟩ : ∃ gx, gx = w5.heap.size := ⟨_, rfl⟩
  rw [← hgx] at rX d6 hY6 ⊢
  generalize (w5.alloc (.cells (v8 (List.replicate 32 0)) 25)).setRow gx (v8 (shaS xa)) = w6 at rX d6 hY6 ⊢
  clear hgx hsa hold hk d5 hs5 hb5 hY4 c4
  have heq : ∀ (u : List Int) wx, (binOp .eql 25 (.agg (v8 (shaS u))) (.agg (v8 (shaS u)))).run Tryd.prog wx = .ok (.bool true) wx := fun u wx => by
    rw [run_eql_bytes wx 25 5 32 _ _ Tryd.underlying25 Tryd.underlying5 (by kernel_rfl) (shaS_length _) (shaS_length _)]; simp
  refine region_tail 26 (by kernel_rfl) (by kernel_rfl) (by kernel_rfl) ?_
  apply Exists.intro
  refine ⟨fun ι _ W hb hc => ?_, fun w7 hb7 => ?_⟩
  · have hd : ∀ i, Below w.heap.size w (W i) := fun i => d6.trans ((hb i).mono d6.size)
    have hX : ∀ i, Row (W i) gx 25 (v8 (shaS xa)) := fun i => rX.below (hb i) rX.lt
    have k1 : ∀ i, Calls Tryd.prog 10 #[.slice sa la ca] (W i) fun e w' => e = .returned (.agg (v8 (shaS xa))) ∧ Below (W i).heap.size (W i) w' := fun i =>
      ref_any xa sa la ca (W i) hla (by omega) hna (hya.below (hd i))
    have k2 : ∀ i, Calls Tryd.prog 11 #[.slice sa la ca, .slice sb lb cb] (W i) fun e w' => e = .returned (.agg (v8 (shaS (xa ++ xb)))) ∧ Below (W i).heap.size (W i) w' := fun i =>
      pair_any xa xb sa sb la ca lb cb (W i) hla hlb (by omega) (hL.below (hd i)) (hya.below (hd i)) (hyb.below (hd i))
    have k3 : ∀ i, Calls Tryd.prog 10 #[.slice sp4 (la + lb) cap4] (W i) fun e w' => e = .returned (.agg (v8 (shaS (xa ++ xb)))) ∧ Below (W i).heap.size (W i) w' := fun i =>
      ref_any (xa ++ xb) sp4 (la + lb) cap4 (W i) hYl (by omega) hn4 (hY6.below (hb i))
    have k4 : ∀ i, Calls Tryd.prog 9 #[.slice sp4 (la + lb) cap4] (W i) fun e w' => e = .returned (.agg (v8 (shaS (xa ++ xb)))) ∧ Below (W i).heap.size (W i) w' := fun i =>
      sum_any (xa ++ xb) sp4 (la + lb) cap4 (W i) hYl hcc (by omega) (hL.below (hd i)) (hY6.below (hb i))
    have k5 : ∀ i, Calls Tryd.prog 12 #[.agg (v8 (shaS xa))] (W i) fun e w' => e = .returned (.string (strOfNums (textS (shaS xa)))) ∧ Below (W i).heap.size (W i) w' := fun i => text_any _ (W i) (shaS_length _) (shaS_in8 _)
    have k6 : ∀ i, Calls Tryd.prog 13 #[.agg (v8 (shaS xa))] (W i) fun e w' => e = .returned (.string (strOfNums (textS (shaS xa)))) ∧ Below (W i).heap.size (W i) w' := fun i => rtext_any _ (W i) (shaS_length _) (shaS_in8 _)
    simp only [List.take_succ_cons, List.take_zero]
    refine q_load_row 25 (.tmp 6) (by rfl) (by rfl) gx (by rfl) 25 _ _ hX Tryd.underlying25 rfl i25 ?_
    simp only [Act.put, List.setIfInBounds_toArray, List.set_cons_succ, List.set_cons_zero]
    repeat (go_big_quiet_step (first | (go_at_call 10; with_reducible exact (k1 _).mono (fun e w' ⟨he, hw⟩ => ⟨he, hc _ _ hw⟩)) | (go_at_call 11; exact (k2 _).mono (fun e w' ⟨he, hw⟩ => ⟨he, hc _ _ hw⟩)) | (go_at_call 10; with_reducible exact (k3 _).mono (fun e w' ⟨he, hw⟩ => ⟨he, hc _ _ hw⟩)) | (go_at_call 9; exact (k4 _).mono (fun e w' ⟨he, hw⟩ => ⟨he, hc _ _ hw⟩)) | (go_at_call 12; exact (k5 _).mono (fun e w' ⟨he, hw⟩ => ⟨he, hc _ _ hw⟩)) | (go_at_call 13; exact (k6 _).mono (fun e w' ⟨he, hw⟩ => ⟨he, hc _ _ hw⟩))))
    refine q_load_rowW 25 (.tmp 6) (by rfl) (by kernel_rfl) gx (by rfl) 25 _ _ hX Tryd.underlying25 rfl i25 ?_
    simp only [Act.put, List.setIfInBounds_toArray, List.set_cons_succ, List.set_cons_zero]
    repeat (go_big_quiet_step ((first | (go_at_call 12; exact (k5 _).mono (fun e w' ⟨he, hw⟩ => ⟨he, hc _ _ hw⟩)) | (go_at_call 13; exact (k6 _).mono (fun e w' ⟨he, hw⟩ => ⟨he, hc _ _ hw⟩)))))
    refine q_load_rowW 25 (.tmp 6) (by rfl) (by kernel_rfl) gx (by rfl) 25 _ _ hX Tryd.underlying25 rfl i25 ?_
    simp only [Act.put, List.setIfInBounds_toArray, List.set_cons_succ, List.set_cons_zero]
    repeat (go_big_quiet_step ((first | (go_at_call 12; exact (k5 _).mono (fun e w' ⟨he, hw⟩ => ⟨he, hc _ _ hw⟩)) | (go_at_call 13; exact (k6 _).mono (fun e w' ⟨he, hw⟩ => ⟨he, hc _ _ hw⟩)))))
    exact wpQuiet_nil rfl
  · simp only [List.drop_succ_cons, List.drop_zero]
    go_wp2
    go_ret
    exact ⟨rfl, d6.trans (hb7.mono d6.size)⟩
end Go.Proofs.YtjefmnoffekeoaaDoor
