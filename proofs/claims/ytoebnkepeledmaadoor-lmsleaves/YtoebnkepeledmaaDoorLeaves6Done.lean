/- LmsLeaves: for any name, seed, height and text the law returns true, and its arguments read behind the call as they read before; the two tables tied to the program's text. -/
import Derived.Test.YtoebnkepeledmaaDoorGe
import Derived.Test.YtoebnkepeledmaaDoorLeavesWx
import Derived.Test.YtoebnkepeledmaaDoorCards
import Derived.Test.YtoebnkepeledmaaDoorTie
import Derived.SevenTiedAt
import Derived.SizedLaws
namespace Go.Proofs.YtoebnkepeledmaaDoor
open Go.ChangeShapes Go.WideShapes Go.ChangeAt Go.RowKit

set_option maxRecDepth 100000 in
theorem leaves6_lifted (os : Os) (started : os.Started) (H : Type) (enc : TypeId × Value → H) :
    ReturnsInHanded {} Tryd.checked os 12 .any (fun w args => (Rows.lmsLeavesSpec.pre enc Tryd.prog Tryd.f12 [] false w args ∧ laidMetH Tryd.prog laid2 w) ∧ sizedMet enc Tryd.prog Tryd.f12 (OpenSpec.ofChange Rows.lmsLeavesSpec) false w args)
      (Rows.lmsLeavesSpec.post enc Tryd.prog Tryd.f12 false true false false) := by
  refine returnsInHanded_of_change_and (C := Tryd.checked) (X := fun w _ => laidMetH Tryd.prog laid2 w) (fun _ _ _ hh h => h.of_heap hh) own started (by kernel_rfl) Tryd.func12
    (ChangeSpec.witness_shaped (enc := enc) (C := Tryd.checked) (os := os) (X := fun w _ => laidMetH Tryd.prog laid2 w) false (World.doorLaid Tryd.prog 400 os) #[.agg (v8 (List.replicate 16 0)), .agg (v8 (List.replicate 32 0)), .int .i64 0, .slice none 0 0] 8 rfl (World.shaped_of_RefB (by kernel_rfl) (by kernel_rfl)) (by kernel_rfl) (by kernel_rfl) (by kernel_rfl) (door_met os _)) ?_
  intro W base args ds gs before hval0 hW _ hsz0 hL _
  have hval : ∀ (j : Nat) t v, Tryd.f12.params[j]? = some t → args[j]? = some v → Value.okWide Tryd.prog W .any base t v := hval0
  have hW' := hW
  obtain ⟨p, q, hA0, hV, rfl, hfz, hnd⟩ := hW
  have hA : DataW.TrodAll enc Tryd.prog W 0 (fun _ => true) true Tryd.f12.params.toList args.toList ds p := hA0
  have hsz : (DataW.weightsEach Tryd.prog (Tryd.f12.params.toList ++ Rows.lmsLeavesSpec.plain.varTypes Tryd.prog) (ds ++ gs)).all (· ≤ reachBytes) = true := hsz0
  rw [Tryd.params12] at hA hval hsz
  obtain ⟨args⟩ := args
  have hA' := hA
  obtain ⟨v0, vs0, d0, ds0, p0, q0, e0, rfl, rfl, h0, hr0⟩ := trodAll_cons hA'
  obtain ⟨v1, vs1, d1, ds1, p1, q1, e1, rfl, rfl, h1, hr1⟩ := trodAll_cons hr0
  obtain ⟨v2, vs2, d2, ds2, p2, q2, e2, rfl, rfl, h2, hr2⟩ := trodAll_cons hr1
  obtain ⟨v3, vs3, d3, ds3, p3, q3, e3, rfl, rfl, h3, hr3⟩ := trodAll_cons hr2
  obtain ⟨z1, rfl, rfl⟩ := trodAll_nil hr3
  subst z1
  subst e3
  subst e2
  subst e1
  simp only at e0
  subst e0
  obtain ⟨rfl, rfl⟩ := trodVars_none hV
  obtain ⟨nm, rfl, hlnm, h8nm⟩ := open_name (hval 0 22 v0 rfl rfl) h0
  obtain ⟨seed, rfl, hlseed, h8seed⟩ := open_id (hval 1 24 v1 rfl rfl) h1
  obtain ⟨h, rfl, _, _, wh⟩ := open_int Tryd.underlying3 (hval 2 3 v2 rfl rfl) h2
  obtain ⟨amsg, lmsg, cmsg, msg, rfl, hlmsg, hcmsg, _, hnmsg, hymsg⟩ := open_bytes (hval 3 28 v3 rfl rfl) h3
  have rmsg : lmsg ≤ 140737488351232 := by
    have b5 : Tryd.prog.bytesOf 5 = 1 := by kernel_rfl
    have r1 : reachBytes = 140737488351232 := rfl
    rcases open_data h3 with h | ⟨xs, ys, rfl, hl⟩
    · omega
    · have := sized_slice hsz (j := 3) (t := 28) rfl rfl Tryd.underlying28
      rw [b5] at this
      omega
  have hlaid := of_laid hL
  clear hA0 hval0
  simp only [List.append_nil] at hW' hA
  have hcall : Calls Tryd.prog 12 #[.agg (v8 nm), .agg (v8 seed), .int .i64 h, .slice amsg lmsg cmsg] W fun e w' => e = .returned (.bool true) ∧ Below W.heap.size W w' := by
    exact leaves6_any shaS rfl nm seed msg h amsg lmsg cmsg W hlaid hlnm hlseed (in8_oct h8nm) hlmsg hnmsg hymsg
  refine hcall.mono fun e W' ⟨he, hnx⟩ => ?_
  subst he
  have hlt : ∀ y ∈ p0 ++ (p1 ++ (p2 ++ (p3 ++ []))), y.block < W.heap.size := fun y hy => hW'.lt y (by simpa using hy)
  exact ⟨_, rfl, _, _, _, [], _, [], hW', trodAll_mk1 (shut_bool Tryd.underlying4 _), below_trodAll_any laidOut hnx (by kernel_rfl) hA (fun y hy => hW'.lt y (by simpa using hy)), rfl, hnx.frame _, fun h => by cases h⟩

set_option maxRecDepth 100000 in
set_option maxHeartbeats 2000000 in
theorem leaves6_holds : Rows.LmsLeavesSaid :=
  OpenClaim.holds_of_wide 12 Tryd.f12 rfl rfl rfl rfl rfl rfl rfl ⟨rfl, rfl, rfl, rfl, rfl⟩ rfl rfl rfl rfl rfl (by kernel_rfl) Tryd.func12 (by kernel_rfl)
    (of_decide_eq_true (by kernel_rfl)) (by unfold Func.isWrapper; first | (rw [if_pos (by decide +kernel)]; kernel_rfl) | (rw [if_neg (by decide +kernel)]; exact ⟨rfl, rfl⟩))
    (fun os started H enc _ => leaves6_lifted os started H enc)

set_option maxRecDepth 100000 in
set_option maxHeartbeats 2000000 in
theorem leaves6_card_holds : Rows.LmsLeavesCardSaid :=
  Claim7.holds_tied_plain_at .later [] [.data, .data] true (true, "a3bf857e86f25debcc46bc791de5fc240c693c40eb7e6f7bf8d266849e963d60") false
    leaves6_holds (fun _ h => by cases h) (by kernel_rfl) (fun _ h => by cases h) lmsLeaves_row_tie rfl ⟨rfl, rfl⟩ (by kernel_rfl) rfl
    (fun f fn hf hfn => by
      obtain rfl : f = 12 := Option.some.inj ((show Tryd.prog.funcNamed "lattice/latticelaw6.LmsLeaves" = some 12 by kernel_rfl).symm.trans hf) |>.symm
      obtain rfl : fn = Tryd.f12 := (Option.some.inj (Tryd.func12.symm.trans hfn)).symm
      exact ⟨by kernel_rfl, fun j t ht => by
        rw [Tryd.params12] at ht
        have hm : t ∈ [22, 24, 3, 28] := by simpa using Array.mem_of_getElem? ht
        have hall : ([22, 24, 3, 28].all fun u => !Tryd.prog.wantsStandIn u) = true := by kernel_rfl
        exact (show Tryd.prog.wantsStandIn t = false by simpa using List.all_eq_true.1 hall t hm)⟩)
    (by kernel_rfl)
end Go.Proofs.YtoebnkepeledmaaDoor
