/- A message such as may be written is written, and how long it is: plain lists. -/
import Derived.Test.YtcdmjjlbeifgjaaGood
import Derived.Test.YtcdmjjlbeifgjaaEncMath
namespace Go.Proofs.Ytcdmjjlbeifgjaa

theorem numE_in (f n e : Int) (h : blo f ≤ n ∧ n ≤ bhi f) : numE f n e = 0 := by unfold numE; rw [if_neg (by omega)]
theorem nodesE_in : ∀ (l : List Int), (∀ x ∈ l, 0 ≤ x ∧ x ≤ 9) → nodesE l = 0
  | [], _ => rfl
  | x :: l, h => by
    have := h x (by simp)
    rw [nodesE, if_neg (by omega)]
    exact nodesE_in l fun y hy => h y (by simp [hy])
theorem good_part (p : Int) (m : M) : partE p (goodM m) = 0 := by
  unfold partE
  have e0 : (goodM m).pred = m.pred % 11 - 1 := rfl
  have e1 : (goodM m).node = m.node % 10 := rfl
  have e2 : (goodM m).list = (m.list.take 10).map (· % 10) := rfl
  have e4 : (goodM m).err = m.err % 21 := rfl
  have e6 : (goodM m).data = m.data.take 6000 := rfl
  have e7 : (goodM m).lease = 1 + m.lease % 1000 := rfl
  split
  · split
    · rfl
    · rename_i h
      exact numE_in _ _ _ (by rw [e0] at h ⊢; exact ⟨by show (0 : Int) ≤ _; omega, by show _ ≤ (9 : Int); omega⟩)
  split
  · exact numE_in _ _ _ (by rw [e1]; exact ⟨by show (0 : Int) ≤ _; omega, by show _ ≤ (9 : Int); omega⟩)
  split
  · unfold listE
    rw [e2, if_neg (by simp; omega)]
    refine nodesE_in _ fun x hx => ?_
    obtain ⟨y, _, rfl⟩ := List.mem_map.1 hx
    omega
  split
  · rfl
  split
  · exact numE_in _ _ _ (by rw [e4]; exact ⟨by show (0 : Int) ≤ _; omega, by show _ ≤ (20 : Int); omega⟩)
  split
  · rfl
  split
  · unfold dataE
    rw [e6, if_neg (by simp; omega)]
  · exact numE_in _ _ _ (by rw [e7]; exact ⟨by show (1 : Int) ≤ _; omega, by show _ ≤ (1000 : Int); omega⟩)
theorem rowE_all (m : M) (h : ∀ p, partE p m = 0) : ∀ r, rowE m r = 0
  | [] => rfl
  | p :: r => by rw [rowE, if_pos (h p)]; exact rowE_all m h r
theorem good_kind (m : M) : 1 ≤ (goodM m).kind ∧ (goodM m).kind ≤ 12 := by
  have : (goodM m).kind = 1 + m.kind % 12 := rfl
  omega
theorem rowOf_some (k : Int) (h : 1 ≤ k ∧ k ≤ 12) : ∃ r, rowOf k = some r := by
  rcases (by omega : k = 1 ∨ k = 2 ∨ k = 3 ∨ k = 4 ∨ k = 5 ∨ k = 6 ∨ k = 7 ∨ k = 8 ∨ k = 9 ∨ k = 10 ∨ k = 11 ∨ k = 12) with rfl | rfl | rfl | rfl | rfl | rfl | rfl | rfl | rfl | rfl | rfl | rfl
  all_goals exact ⟨_, rfl⟩
theorem good_encE (m : M) : encE (goodM m) = 0 := by
  obtain ⟨r, hr⟩ := rowOf_some _ (good_kind m)
  simp only [encE, hr]
  exact rowE_all _ (fun p => good_part p m) r
theorem good_encB (m : M) (r : List Int) (hr : rowOf (goodM m).kind = some r) : encB (goodM m) = (goodM m).kind % 256 :: rowB (goodM m) r := by
  simp only [encB, hr]
  rw [if_pos (rowE_all _ (fun p => good_part p m) r)]
/-- How many bytes stand behind the kind. -/
def restL (c : Int) (m : M) : Nat :=
  if c = 1 then 0 else if c = 2 ∨ c = 6 then 2 + m.list.length else if c = 3 ∨ c = 4 then 1 else if c = 5 ∨ c = 7 ∨ c = 11 then 32 else if c = 8 then 3 + m.data.length else if c = 9 then 39 + m.data.length else if c = 10 then 34 + m.data.length else 7 + m.data.length
theorem partB_pred (m : M) : (partB 0 m).length = 1 := by
  show (if m.pred = -1 then [255] else nb 1 m.pred).length = 1
  split
  · rfl
  · exact nb_length _ _
theorem good_len (m : M) (hk : m.key.length = 32) : ∃ xs, encB (goodM m) = (goodM m).kind :: xs ∧ xs.length = restL (goodM m).kind (goodM m) := by
  have hb := good_kind m
  have hk' : (goodM m).key.length = 32 := hk
  have hmod : (goodM m).kind % 256 = (goodM m).kind := by omega
  obtain ⟨r, hr⟩ := rowOf_some _ hb
  refine ⟨rowB (goodM m) r, by rw [good_encB m r hr, hmod], ?_⟩
  generalize goodM m = g at *
  have p0 := partB_pred g
  have p1 : (partB 1 g).length = 1 := nb_length _ _
  have p2 : (partB 2 g).length = 1 + g.list.length := by show (nb 1 _ ++ _).length = _; rw [List.length_append, nb_length, nodes_len]
  have p3 : (partB 3 g).length = 1 := rfl
  have p4 : (partB 4 g).length = 1 := nb_length _ _
  have p5 : (partB 5 g).length = 32 := hk'
  have p6 : (partB 6 g).length = 2 + g.data.length := by show (nb 2 _ ++ _).length = _; rw [List.length_append, nb_length]
  have p7 : (partB 7 g).length = 4 := nb_length _ _
  generalize g.kind = k at *
  rcases (by omega : k = 1 ∨ k = 2 ∨ k = 3 ∨ k = 4 ∨ k = 5 ∨ k = 6 ∨ k = 7 ∨ k = 8 ∨ k = 9 ∨ k = 10 ∨ k = 11 ∨ k = 12) with rfl | rfl | rfl | rfl | rfl | rfl | rfl | rfl | rfl | rfl | rfl | rfl
  all_goals
    injection hr with hr
    subst hr
    simp only [rowB, List.flatMap_cons, List.flatMap_nil, List.length_append, List.length_nil, p0, p1, p2, p3, p4, p5, p6, p7]
    simp [restL]
    try omega
end Go.Proofs.Ytcdmjjlbeifgjaa
