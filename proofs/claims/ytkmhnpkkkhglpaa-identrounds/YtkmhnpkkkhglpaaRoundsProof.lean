/- IdentRounds: for any three ids, any place and any byte the law returns true, and its arguments read behind the call as they read before. No condition. -/
import Derived.Test.YtkmhnpkkkhglpaaShut
import Derived.Test.YtkmhnpkkkhglpaaRoundsNear
import Derived.Test.YtkmhnpkkkhglpaaRoundsNeg
import Derived.Test.YtkmhnpkkkhglpaaRoundsOther
namespace Go.Proofs.Ytkmhnpkkkhglpaa
open Go.ChangeShapes Go.WideShapes Go.ChangeAt Go.RowKit

theorem rounds_any (a b c : List Int) (n x : Int) (w : World) (ha : Id32 a) (hb : Id32 b) (hc : Id32 c) :
    Calls Try.prog 4 #[.agg (v8 a), .agg (v8 b), .agg (v8 c), .int .i64 n, .int .u8 x] w fun e w' => e = .returned (.bool true) ∧ Below w.heap.size w w' := by
  by_cases h0 : n < 0
  · by_cases h : a = b ∨ b = c ∨ a = c
    · exact rounds_neg_early a b c n x w ha hb hc h0 h
    · exact rounds_neg_apart a b c n x w ha hb hc h0 (fun e => h (.inl e)) (fun e => h (.inr (.inl e))) (fun e => h (.inr (.inr e)))
  · by_cases h3 : n % 3 = 0
    · by_cases h : a = nearL a n x ∨ nearL a n x = c ∨ a = c
      · exact rounds_near_early a b c n x w ha hb hc ⟨by omega, h3⟩ h
      · exact rounds_near_apart a b c n x w ha hb hc ⟨by omega, h3⟩ (fun e => h (.inl e)) (fun e => h (.inr (.inl e))) (fun e => h (.inr (.inr e)))
    · by_cases h : a = b ∨ b = c ∨ a = c
      · exact rounds_other_early a b c n x w ha hb hc ⟨by omega, h3⟩ h
      · exact rounds_other_apart a b c n x w ha hb hc ⟨by omega, h3⟩ (fun e => h (.inl e)) (fun e => h (.inr (.inl e))) (fun e => h (.inr (.inr e)))

set_option maxRecDepth 100000 in
theorem rounds_lifted (os : Os) (started : os.Started) (H : Type) (enc : TypeId × Value → H) :
    ReturnsInHanded {} Try.checked os 4 .any (Rows.identRoundsSpec.pre6 enc Try.prog Try.f4 Rows.identRoundsRow.domain false) (Rows.identRoundsSpec.post enc Try.prog Try.f4 false true false false) := by
  refine returnsInHanded_of_change (C := Try.checked) own started (by kernel_rfl) Try.func4
    (ChangeSpec.witness6 (enc := enc) (C := Try.checked) false ⟨#[], #[.agg (v8 (List.replicate 32 0)), .agg (v8 (List.replicate 32 0)), .agg (v8 (List.replicate 32 0)), .int .i64 0, .int .u8 0], []⟩ 8 (by kernel_rfl) (by kernel_rfl) (by kernel_rfl) (by kernel_rfl)) ?_
  intro W base args ds gs before hval0 hW hcnd _
  have hval : ∀ (j : Nat) t v, Try.f4.params[j]? = some t → args[j]? = some v → Value.okWide Try.prog W .any base t v := hval0
  have hW' := hW
  obtain ⟨p, q, hA0, hV, rfl, hfz, hnd⟩ := hW
  have hA : DataW.TrodAll enc Try.prog W 0 (fun _ => true) true Try.f4.params.toList args.toList ds p := hA0
  rw [Try.params4] at hA hval
  obtain ⟨v0, v1, v2, v3, v4, d0, d1, d2, d3, d4, p0, p1, p2, p3, p4, rfl, rfl, hp, h0, h1, h2, h3, h4⟩ := trodAll_five hA
  obtain ⟨rfl, rfl⟩ := trodVars_none hV
  obtain ⟨a, rfl, ha⟩ := open_id (hval 0 23 v0 rfl rfl) h0
  obtain ⟨b, rfl, hb⟩ := open_id (hval 1 23 v1 rfl rfl) h1
  obtain ⟨c, rfl, hc⟩ := open_id (hval 2 23 v2 rfl rfl) h2
  obtain ⟨n, rfl, _, _, _⟩ := open_int Try.underlying3 (hval 3 3 v3 rfl rfl) h3
  obtain ⟨x, rfl, _, _, _⟩ := open_int Try.underlying5 (hval 4 5 v4 rfl rfl) h4
  clear hA0 hval0 h0 h1 h2 h3 h4 hp
  simp only [List.append_nil] at hW'
  have hlt : ∀ y ∈ p, y.block < W.heap.size := fun y hy => hW'.lt y (by simp [hy])
  refine (rounds_any a b c n x W ha hb hc).mono fun e W' ⟨he, hnx⟩ => ?_
  subst he
  exact ⟨_, rfl, _, _, _, [], p, [], hW', trodAll_mk1 (shut_bool Try.underlying4 _), below_trodAll_any laidOut hnx (by kernel_rfl) hA hlt, rfl, hnx.frame _, fun h => by cases h⟩

set_option maxRecDepth 100000 in
set_option maxHeartbeats 2000000 in
theorem rounds_holds : Rows.IdentRoundsSaid :=
  OpenClaim.holds_of_wide 4 Try.f4 rfl rfl rfl rfl rfl rfl rfl ⟨rfl, rfl, rfl, rfl, rfl⟩ rfl rfl rfl rfl rfl (by kernel_rfl) Try.func4 (by kernel_rfl)
    (of_decide_eq_true (by kernel_rfl)) (by unfold Func.isWrapper; first | (rw [if_pos (by decide +kernel)]; kernel_rfl) | (rw [if_neg (by decide +kernel)]; exact ⟨rfl, rfl⟩))
    (fun os started H enc _ => rounds_lifted os started H enc)
end Go.Proofs.Ytkmhnpkkkhglpaa
