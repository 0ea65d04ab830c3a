/- BlobDirs: for any entries, rows of numbers, id, numbers and bytes the law returns true, and its arguments read behind the call as they read before. No condition. -/
import Derived.Test.YtgcffdnbihfghaaArgI
import Derived.Test.YtgcffdnbihfghaaArgRows
import Derived.Test.YtgcffdnbihfghaaArgEnts
import Derived.Test.YtgcffdnbihfghaaArgId
import Derived.Test.YtgcffdnbihfghaaDirsWalk
namespace Go.Proofs.Ytgcffdnbihfghaa
open Go.ChangeShapes Go.WideShapes Go.ChangeAt Go.RowKit

set_option maxRecDepth 100000 in
theorem dirs_lifted (os : Os) (started : os.Started) (H : Type) (enc : TypeId × Value → H) :
    ReturnsInHanded {} Try.checked os 5 .any (Rows.blobDirsSpec.pre6 enc Try.prog Try.f5 Rows.blobDirsRow.domain false) (Rows.blobDirsSpec.post enc Try.prog Try.f5 false true false false) := by
  refine returnsInHanded_of_change (C := Try.checked) own started (by kernel_rfl) Try.func5
    (ChangeSpec.witness6 (enc := enc) (C := Try.checked) false ⟨#[], #[.slice none 0 0, .slice none 0 0, .agg (v8 (zer 32)), .slice none 0 0, .slice none 0 0, .int .i64 0, .slice none 0 0], []⟩ 8 (by kernel_rfl) (by kernel_rfl) (by kernel_rfl) (by kernel_rfl)) ?_
  intro W base args ds gs before hval0 hW hcnd _
  have hval : ∀ (j : Nat) t v, Try.f5.params[j]? = some t → args[j]? = some v → Value.okWide Try.prog W .any base t v := hval0
  have hW' := hW
  obtain ⟨p, q, hA0, hV, rfl, hfz, hnd⟩ := hW
  have hA : DataW.TrodAll enc Try.prog W 0 (fun _ => true) true Try.f5.params.toList args.toList ds p := hA0
  rw [Try.params5] at hA hval
  obtain ⟨v0, v1, v2, v3, v4, v5, v6, d0, d1, d2, d3, d4, d5, d6, p0, p1, p2, p3, p4, p5, p6, rfl, rfl, hp, h0, h1, h2, h3, h4, h5, h6⟩ := trodAll_seven hA
  obtain ⟨rfl, rfl⟩ := trodVars_none hV
  obtain ⟨aF, nF, cF, F, rfl, hcF, hmF, hlF, hEF, hyF⟩ := open_ents (hval 0 51 v0 rfl rfl) h0
  obtain ⟨azss, czss, zss, rfl, hlzss, hmzss, hIzss⟩ := open_nums2 (hval 1 52 v1 rfl rfl) h1
  obtain ⟨node, rfl, hlnode, hynode⟩ := open_idv (hval 2 23 v2 rfl rfl) h2
  obtain ⟨aal, cal, al, rfl, hlal, hmal, hIal⟩ := open_nums Try.underlying26 Try.underlying3 (by kernel_rfl) (hval 3 26 v3 rfl rfl) h3
  obtain ⟨abl, cbl, bl, rfl, hlbl, hmbl, hnbl, hBbl, hybl⟩ := open_bytes Try.underlying27 Try.underlying5 (by kernel_rfl) (hval 4 27 v4 rfl rfl) h4
  obtain ⟨cut, rfl, _, _, wcut⟩ := open_int Try.underlying3 (hval 5 3 v5 rfl rfl) h5
  have bcut := int_range wcut
  obtain ⟨araw, craw, raw, rfl, hlraw, hmraw, hnraw, hBraw, hyraw⟩ := open_bytes Try.underlying27 Try.underlying5 (by kernel_rfl) (hval 6 27 v6 rfl rfl) h6
  clear hA0 hval0 h0 h1 h2 h3 h4 h5 h6 hp
  simp only [List.append_nil] at hW'
  have hlt : ∀ y ∈ p, y.block < W.heap.size := fun y hy => hW'.lt y (by simp [hy])
  refine (dirs_walk F zss node al bl raw nF zss.length aF azss aal abl araw cF czss cal cbl craw cut W hlF (by unfold maxLen at hmF; omega) hEF (fun e he => by have := hyF e he; unfold maxLen at this; exact this) rfl (by unfold maxLen at hmzss; omega) hIzss hlnode hynode hIal (by unfold maxLen at hmal; omega) hBbl hybl (by unfold maxLen at hmbl; omega) hnraw hBraw hyraw (by unfold maxLen at hmraw; omega) hlraw).mono fun e W' ⟨he, hnx⟩ => ?_
  subst he
  exact ⟨_, rfl, _, _, _, [], p, [], hW', trodAll_mk1 (shut_bool Try.underlying4 _), below_trodAll_any laidOut hnx (by kernel_rfl) hA hlt, rfl, hnx.frame _, fun h => by cases h⟩

set_option maxRecDepth 100000 in
set_option maxHeartbeats 2000000 in
theorem dirs_holds : Rows.BlobDirsSaid :=
  OpenClaim.holds_of_wide 5 Try.f5 rfl rfl rfl rfl rfl rfl rfl ⟨rfl, rfl, rfl, rfl, rfl⟩ rfl rfl rfl rfl rfl (by kernel_rfl) Try.func5 (by kernel_rfl)
    (of_decide_eq_true (by kernel_rfl)) (by unfold Func.isWrapper; first | (rw [if_pos (by decide +kernel)]; kernel_rfl) | (rw [if_neg (by decide +kernel)]; exact ⟨rfl, rfl⟩))
    (fun os started H enc _ => dirs_lifted os started H enc)
end Go.Proofs.Ytgcffdnbihfghaa
