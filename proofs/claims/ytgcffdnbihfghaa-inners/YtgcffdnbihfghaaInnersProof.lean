/- BlobInners: for any ids, numbers and bytes the law returns true, and its arguments read behind the call as they read before. No condition. -/
import Derived.Test.YtgcffdnbihfghaaArgI
import Derived.Test.YtgcffdnbihfghaaArgIds
import Derived.Test.YtgcffdnbihfghaaInnersWalk
namespace Go.Proofs.Ytgcffdnbihfghaa
open Go.ChangeShapes Go.WideShapes Go.ChangeAt Go.RowKit

set_option maxRecDepth 100000 in
theorem inners_lifted (os : Os) (started : os.Started) (H : Type) (enc : TypeId × Value → H) :
    ReturnsInHanded {} Try.checked os 4 .any (Rows.blobInnersSpec.pre6 enc Try.prog Try.f4 Rows.blobInnersRow.domain false) (Rows.blobInnersSpec.post enc Try.prog Try.f4 false true false false) := by
  refine returnsInHanded_of_change (C := Try.checked) own started (by kernel_rfl) Try.func4
    (ChangeSpec.witness6 (enc := enc) (C := Try.checked) false ⟨#[], #[.slice none 0 0, .slice none 0 0, .slice none 0 0, .int .i64 0, .slice none 0 0], []⟩ 8 (by kernel_rfl) (by kernel_rfl) (by kernel_rfl) (by kernel_rfl)) ?_
  intro W base args ds gs before hval0 hW hcnd _
  have hval : ∀ (j : Nat) t v, Try.f4.params[j]? = some t → args[j]? = some v → Value.okWide Try.prog W .any base t v := hval0
  have hW' := hW
  obtain ⟨p, q, hA0, hV, rfl, hfz, hnd⟩ := hW
  have hA : DataW.TrodAll enc Try.prog W 0 (fun _ => true) true Try.f4.params.toList args.toList ds p := hA0
  rw [Try.params4] at hA hval
  obtain ⟨v0, v1, v2, v3, v4, d0, d1, d2, d3, d4, p0, p1, p2, p3, p4, rfl, rfl, hp, h0, h1, h2, h3, h4⟩ := trodAll_five hA
  obtain ⟨rfl, rfl⟩ := trodVars_none hV
  obtain ⟨aF, nF, cF, F, rfl, hlF, hmF, hFF, hBF, hyF⟩ := open_ids (hval 0 42 v0 rfl rfl) h0
  obtain ⟨aal, cal, al, rfl, hlal, hmal, hIal⟩ := open_nums Try.underlying26 Try.underlying3 (by kernel_rfl) (hval 1 26 v1 rfl rfl) h1
  obtain ⟨abl, cbl, bl, rfl, hlbl, hmbl, hnbl, hBbl, hybl⟩ := open_bytes Try.underlying27 Try.underlying5 (by kernel_rfl) (hval 2 27 v2 rfl rfl) h2
  obtain ⟨cut, rfl, _, _, wcut⟩ := open_int Try.underlying3 (hval 3 3 v3 rfl rfl) h3
  have bcut := int_range wcut
  obtain ⟨araw, craw, raw, rfl, hlraw, hmraw, hnraw, hBraw, hyraw⟩ := open_bytes Try.underlying27 Try.underlying5 (by kernel_rfl) (hval 4 27 v4 rfl rfl) h4
  clear hA0 hval0 h0 h1 h2 h3 h4 hp
  simp only [List.append_nil] at hW'
  have hlt : ∀ y ∈ p, y.block < W.heap.size := fun y hy => hW'.lt y (by simp [hy])
  refine (inners_walk F al bl raw nF aF aal abl araw cF cal cbl craw cut W hFF (by unfold maxLen at hmF; omega) hBF hyF hIal (by unfold maxLen at hmal; omega) hBbl hybl (by unfold maxLen at hmbl; omega) hnraw hBraw hyraw (by unfold maxLen at hmraw; omega) hlraw).mono fun e W' ⟨he, hnx⟩ => ?_
  subst he
  exact ⟨_, rfl, _, _, _, [], p, [], hW', trodAll_mk1 (shut_bool Try.underlying4 _), below_trodAll_any laidOut hnx (by kernel_rfl) hA hlt, rfl, hnx.frame _, fun h => by cases h⟩

set_option maxRecDepth 100000 in
set_option maxHeartbeats 2000000 in
theorem inners_holds : Rows.BlobInnersSaid :=
  OpenClaim.holds_of_wide 4 Try.f4 rfl rfl rfl rfl rfl rfl rfl ⟨rfl, rfl, rfl, rfl, rfl⟩ rfl rfl rfl rfl rfl (by kernel_rfl) Try.func4 (by kernel_rfl)
    (of_decide_eq_true (by kernel_rfl)) (by unfold Func.isWrapper; first | (rw [if_pos (by decide +kernel)]; kernel_rfl) | (rw [if_neg (by decide +kernel)]; exact ⟨rfl, rfl⟩))
    (fun os started H enc _ => inners_lifted os started H enc)
end Go.Proofs.Ytgcffdnbihfghaa
