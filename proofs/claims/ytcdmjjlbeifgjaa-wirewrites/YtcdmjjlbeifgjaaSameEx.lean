/- What was read back is the same as what was written. No program in it. -/
import Derived.Test.YtcdmjjlbeifgjaaGs
import Derived.Test.YtcdmjjlbeifgjaaParseAll
import Derived.Test.YtcdmjjlbeifgjaaGoodMath
namespace Go.Proofs.Ytcdmjjlbeifgjaa
open Go Go.RowKit
theorem partS_refl (p : Int) (m : M) : partS p m m = true := by
  unfold partS
  repeat' split
  all_goals simp
theorem same_refl (m : M) : sameM m m = true := by
  rw [sameM]
  simp only [BEq.rfl, Bool.true_and]
  rw [List.all_eq_true]
  exact fun p _ => partS_refl p m
theorem putP_kind (p : Int) (m m0 : M) : (putP p m m0).kind = m0.kind := by
  unfold putP
  repeat' split
  all_goals rfl
theorem putP_new (p : Int) (hp : 0 ≤ p ∧ p ≤ 7) (m m0 : M) : partS p (putP p m m0) m = true := by
  rcases (by omega : p = 0 ∨ p = 1 ∨ p = 2 ∨ p = 3 ∨ p = 4 ∨ p = 5 ∨ p = 6 ∨ p = 7) with rfl | rfl | rfl | rfl | rfl | rfl | rfl | rfl <;> simp [partS, putP]
theorem putP_old (p q : Int) (hp : 0 ≤ p ∧ p ≤ 7) (hq : 0 ≤ q ∧ q ≤ 7) (m m0 : M) (h : partS q m0 m = true) : partS q (putP p m m0) m = true := by
  rcases (by omega : p = 0 ∨ p = 1 ∨ p = 2 ∨ p = 3 ∨ p = 4 ∨ p = 5 ∨ p = 6 ∨ p = 7) with rfl | rfl | rfl | rfl | rfl | rfl | rfl | rfl <;>
  rcases (by omega : q = 0 ∨ q = 1 ∨ q = 2 ∨ q = 3 ∨ q = 4 ∨ q = 5 ∨ q = 6 ∨ q = 7) with rfl | rfl | rfl | rfl | rfl | rfl | rfl | rfl <;> first | exact h | simp [partS, putP]
theorem putR_all : ∀ (r : List Int) (m m0 : M), (∀ p ∈ r, 0 ≤ p ∧ p ≤ 7) → (putR m r m0).kind = m0.kind ∧ (∀ q, 0 ≤ q ∧ q ≤ 7 → partS q m0 m = true → partS q (putR m r m0) m = true) ∧ ∀ p ∈ r, partS p (putR m r m0) m = true
  | [], m, m0, _ => ⟨rfl, fun _ _ h => h, fun p hp => by simp at hp⟩
  | p :: r, m, m0, hr => by
    have hp := hr p (by simp)
    obtain ⟨h1, h2, h3⟩ := putR_all r m (putP p m m0) (fun q hq => hr q (by simp [hq]))
    have e : putR m (p :: r) m0 = putR m r (putP p m m0) := rfl
    rw [e]
    refine ⟨h1.trans (putP_kind _ _ _), fun q hq h => h2 q hq (putP_old p q hp hq m m0 h), fun q hq => ?_⟩
    rcases List.mem_cons.1 hq with rfl | hq
    · exact h2 q hp (putP_new q hp m m0)
    · exact h3 q hq
theorem putP_by (p : Int) (m m0 : M) (h : By m.data) (h0 : By m0.data) : By (putP p m m0).data := by
  unfold putP
  repeat' split
  all_goals first | exact h | exact h0
theorem putP_len (p : Int) (m m0 : M) (n : Nat) (h : m.list.length ≤ n) (h0 : m0.list.length ≤ n) : (putP p m m0).list.length ≤ n := by
  unfold putP
  repeat' split
  all_goals first | exact h | exact h0
theorem putR_by : ∀ (r : List Int) (m m0 : M), By m.data → By m0.data → By (putR m r m0).data
  | [], _, _, _, h0 => h0
  | p :: r, m, m0, h, h0 => putR_by r m (putP p m m0) h (putP_by p m m0 h h0)
theorem putR_len : ∀ (r : List Int) (m m0 : M) (n : Nat), m.list.length ≤ n → m0.list.length ≤ n → (putR m r m0).list.length ≤ n
  | [], _, _, _, _, h0 => h0
  | p :: r, m, m0, n, h, h0 => putR_len r m (putP p m m0) n h (putP_len p m m0 n h h0)
theorem back_facts (m : M) (hk : m.key.length = 32) (h : encE m = 0) (hy : By m.data) : By (parM (encB m)).data ∧ (parM (encB m)).list.length ≤ m.list.length := by
  obtain ⟨r, hr, _⟩ := enc_row m h
  obtain ⟨_, h2⟩ := par_back m hk h r hr
  rw [h2]
  exact ⟨putR_by r m _ hy (fun x hx => by simp [mK] at hx), putR_len r m _ _ (Nat.le_refl _) (by simp [mK])⟩
theorem same_back (m : M) (hk : m.key.length = 32) (h : encE m = 0) : sameM (parM (encB m)) m = true ∧ parE (encB m) = 0 := by
  obtain ⟨r, hr, _⟩ := enc_row m h
  obtain ⟨h1, h2⟩ := par_back m hk h r hr
  obtain ⟨k1, _, k3⟩ := putR_all r m (mK m.kind) (rowOf_parts _ _ hr)
  have hkd : (putR m r (mK m.kind)).kind = m.kind := k1
  refine ⟨?_, h1⟩
  rw [h2, sameM, hkd, hr]
  simp only [BEq.rfl, Bool.true_and, Option.getD_some]
  rw [List.all_eq_true]
  exact k3
end Go.Proofs.Ytcdmjjlbeifgjaa
