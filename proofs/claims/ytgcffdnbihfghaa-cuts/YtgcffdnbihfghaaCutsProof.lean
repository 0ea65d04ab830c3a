/- BlobCuts: for any number, ids and bytes the law returns true, and its arguments read behind the call as they read before. No condition. -/
import Derived.Test.YtgcffdnbihfghaaArgI
import Derived.Test.YtgcffdnbihfghaaArgIds
import Derived.Test.YtgcffdnbihfghaaArgPub
import Derived.Test.YtgcffdnbihfghaaCutsWalk
namespace Go.Proofs.Ytgcffdnbihfghaa
open Go.ChangeShapes Go.WideShapes Go.ChangeAt Go.RowKit

set_option maxRecDepth 100000 in
theorem cuts_lifted (os : Os) (started : os.Started) (H : Type) (enc : TypeId × Value → H) :
    ReturnsInHanded {} Try.checked os 7 .any (Rows.blobCutsSpec.pre6 enc Try.prog Try.f7 Rows.blobCutsRow.domain false) (Rows.blobCutsSpec.post enc Try.prog Try.f7 false true false false) := by
  refine returnsInHanded_of_change (C := Try.checked) own started (by kernel_rfl) Try.func7
    (ChangeSpec.witness6 (enc := enc) (C := Try.checked) false ⟨#[], #[.int .i64 0, .slice none 0 0, .agg (v8 (zer 56)), .slice none 0 0], []⟩ 8 (by kernel_rfl) (by kernel_rfl) (by kernel_rfl) (by kernel_rfl)) ?_
  intro W base args ds gs before hval0 hW hcnd _
  have hval : ∀ (j : Nat) t v, Try.f7.params[j]? = some t → args[j]? = some v → Value.okWide Try.prog W .any base t v := hval0
  have hW' := hW
  obtain ⟨p, q, hA0, hV, rfl, hfz, hnd⟩ := hW
  have hA : DataW.TrodAll enc Try.prog W 0 (fun _ => true) true Try.f7.params.toList args.toList ds p := hA0
  rw [Try.params7] at hA hval
  obtain ⟨v0, v1, v2, v3, d0, d1, d2, d3, p0, p1, p2, p3, rfl, rfl, hp, h0, h1, h2, h3⟩ := trodAll_four hA
  obtain ⟨rfl, rfl⟩ := trodVars_none hV
  obtain ⟨size, rfl, _, _, wsize⟩ := open_int Try.underlying3 (hval 0 3 v0 rfl rfl) h0
  have bsize := int_range wsize
  obtain ⟨aF, nF, cF, F, rfl, hlF, hmF, hFF, hBF, hyF⟩ := open_ids (hval 1 42 v1 rfl rfl) h1
  obtain ⟨pub, rfl, hlpub, hypub⟩ := open_pub (hval 2 67 v2 rfl rfl) h2
  obtain ⟨asig, csig, sig, rfl, hlsig, hmsig, hnsig, hBsig, hysig⟩ := open_bytes Try.underlying27 Try.underlying5 (by kernel_rfl) (hval 3 27 v3 rfl rfl) h3
  clear hA0 hval0 h0 h1 h2 h3 hp
  simp only [List.append_nil] at hW'
  have hlt : ∀ y ∈ p, y.block < W.heap.size := fun y hy => hW'.lt y (by simp [hy])
  refine (cuts_walk size F pub sig nF aF asig cF csig W hFF (by unfold maxLen at hmF; omega) hBF hyF hlpub hypub hBsig hysig (by unfold maxLen at hmsig; omega)).mono fun e W' ⟨he, hnx⟩ => ?_
  subst he
  exact ⟨_, rfl, _, _, _, [], p, [], hW', trodAll_mk1 (shut_bool Try.underlying4 _), below_trodAll_any laidOut hnx (by kernel_rfl) hA hlt, rfl, hnx.frame _, fun h => by cases h⟩

set_option maxRecDepth 100000 in
set_option maxHeartbeats 2000000 in
theorem cuts_holds : Rows.BlobCutsSaid :=
  OpenClaim.holds_of_wide 7 Try.f7 rfl rfl rfl rfl rfl rfl rfl ⟨rfl, rfl, rfl, rfl, rfl⟩ rfl rfl rfl rfl rfl (by kernel_rfl) Try.func7 (by kernel_rfl)
    (of_decide_eq_true (by kernel_rfl)) (by unfold Func.isWrapper; first | (rw [if_pos (by decide +kernel)]; kernel_rfl) | (rw [if_neg (by decide +kernel)]; exact ⟨rfl, rfl⟩))
    (fun os started H enc _ => cuts_lifted os started H enc)
end Go.Proofs.Ytgcffdnbihfghaa
