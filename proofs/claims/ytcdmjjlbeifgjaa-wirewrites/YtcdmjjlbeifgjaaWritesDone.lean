/- WireWrites: for any two messages the law returns true, and its arguments read behind the call as they read before. No condition. -/
import Derived.Test.YtcdmjjlbeifgjaaShut
import Derived.Test.YtcdmjjlbeifgjaaGw
import Derived.Test.YtcdmjjlbeifgjaaArg
namespace Go.Proofs.Ytcdmjjlbeifgjaa
open Go.ChangeShapes Go.WideShapes Go.ChangeAt Go.RowKit

set_option maxRecDepth 100000 in
theorem writes_lifted (os : Os) (started : os.Started) (H : Type) (enc : TypeId × Value → H) :
    ReturnsInHanded {} Try.checked os 3 .any (Rows.wireWritesSpec.pre6 enc Try.prog Try.f3 Rows.wireWritesRow.domain false) (Rows.wireWritesSpec.post enc Try.prog Try.f3 false true false false) := by
  refine returnsInHanded_of_change (C := Try.checked) own started (by kernel_rfl) Try.func3
    (ChangeSpec.witness6 (enc := enc) (C := Try.checked) false ⟨#[], #[.agg (mc m00 none 0 none 0), .agg (mc m00 none 0 none 0)], []⟩ 8 (by kernel_rfl) (by kernel_rfl) (by kernel_rfl) (by kernel_rfl)) ?_
  intro W base args ds gs before hval0 hW hcnd _
  have hval : ∀ (j : Nat) t v, Try.f3.params[j]? = some t → args[j]? = some v → Value.okWide Try.prog W .any base t v := hval0
  have hW' := hW
  obtain ⟨p, q, hA0, hV, rfl, hfz, hnd⟩ := hW
  have hA : DataW.TrodAll enc Try.prog W 0 (fun _ => true) true Try.f3.params.toList args.toList ds p := hA0
  rw [Try.params3] at hA hval
  obtain ⟨v0, v1, d0, d1, p0, p1, rfl, rfl, hp, h0, h1⟩ := trodAll_two hA
  obtain ⟨rfl, rfl⟩ := trodVars_none hV
  obtain ⟨m, lpm, dpm, lcm, dcm, rfl, hFm, hlm, hdm, hkm, hbm⟩ := open_msg (hval 0 28 v0 rfl rfl) h0
  obtain ⟨o, lpo, dpo, lco, dco, rfl, hFo, hlo, hdo, hko, hbo⟩ := open_msg (hval 1 28 v1 rfl rfl) h1
  clear hA0 hval0 h0 h1 hp
  simp only [List.append_nil] at hW'
  have hlt : ∀ y ∈ p, y.block < W.heap.size := fun y hy => hW'.lt y (by simp [hy])
  refine (writes_any m o lpm dpm lpo dpo lcm dcm lco dco W hFm hFo (by have := hFm.lcap; unfold maxLen at hlm; omega) (by have := hFm.dcap; unfold maxLen at hdm; omega) (by have := hFo.lcap; unfold maxLen at hlo; omega) (by have := hFo.dcap; unfold maxLen at hdo; omega) hkm hbm hbo).mono fun e W' ⟨he, hnx⟩ => ?_
  subst he
  exact ⟨_, rfl, _, _, _, [], p, [], hW', trodAll_mk1 (shut_bool Try.underlying4 _), below_trodAll_any laidOut hnx (by kernel_rfl) hA hlt, rfl, hnx.frame _, fun h => by cases h⟩

set_option maxRecDepth 100000 in
set_option maxHeartbeats 2000000 in
theorem writes_holds : Rows.WireWritesSaid :=
  OpenClaim.holds_of_wide 3 Try.f3 rfl rfl rfl rfl rfl rfl rfl ⟨rfl, rfl, rfl, rfl, rfl⟩ rfl rfl rfl rfl rfl (by kernel_rfl) Try.func3 (by kernel_rfl)
    (of_decide_eq_true (by kernel_rfl)) (by unfold Func.isWrapper; first | (rw [if_pos (by decide +kernel)]; kernel_rfl) | (rw [if_neg (by decide +kernel)]; exact ⟨rfl, rfl⟩))
    (fun os started H enc _ => writes_lifted os started H enc)
end Go.Proofs.Ytcdmjjlbeifgjaa
