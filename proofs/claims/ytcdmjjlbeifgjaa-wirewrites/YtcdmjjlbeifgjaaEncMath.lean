/- What the parts of a message come to, one behind the other: plain lists. -/
import Derived.Test.YtcdmjjlbeifgjaaModel
namespace Go.Proofs.Ytcdmjjlbeifgjaa

theorem rowE_snoc (m : M) (r : List Int) (p : Int) (h : rowE m r = 0) : rowE m (r ++ [p]) = partE p m := by
  induction r with
  | nil =>
    rw [List.nil_append, rowE]
    split
    · rename_i e; rw [e]; rfl
    · rfl
  | cons q r ih =>
    rw [rowE] at h
    rw [List.cons_append, rowE]
    split
    · rename_i e; rw [if_pos e] at h; exact ih h
    · rename_i e; rw [if_neg e] at h; exact absurd h e
theorem rowE_stop (m : M) (r t : List Int) (p : Int) (h : rowE m r = 0) (hp : partE p m ≠ 0) : rowE m (r ++ p :: t) = partE p m := by
  induction r with
  | nil => rw [List.nil_append, rowE, if_neg hp]
  | cons q r ih =>
    rw [rowE] at h
    rw [List.cons_append, rowE]
    split
    · rename_i e; rw [if_pos e] at h; exact ih h
    · rename_i e; rw [if_neg e] at h; exact absurd h e
theorem rowB_snoc (m : M) (r : List Int) (p : Int) : rowB m (r ++ [p]) = rowB m r ++ partB p m := by simp [rowB]
theorem nodes_len (l : List Int) : (l.flatMap (nb 1)).length = l.length := by
  induction l with
  | nil => rfl
  | cons x l ih => rw [List.flatMap_cons, List.length_append, nb_length, ih, List.length_cons]; omega
theorem partB_len (p : Int) (m : M) (hk : m.key.length = 32) (h : partE p m = 0) : (partB p m).length ≤ 6002 := by
  unfold partB
  repeat' split
  all_goals (try simp only [List.length_append, nb_length, nodes_len, List.length_cons, List.length_nil])
  all_goals (try omega)
  · rename_i e0 e1 e2
    subst e2
    have : listE m.list = 0 := h
    unfold listE at this
    split at this <;> omega
  · rename_i e0 e1 e2 e3 e4 e5 e6
    subst e6
    have : dataE m.data = 0 := h
    unfold dataE at this
    split at this <;> omega
theorem rowOf_parts (k : Int) (r : List Int) (h : rowOf k = some r) : ∀ p ∈ r, 0 ≤ p ∧ p ≤ 7 := by
  unfold rowOf at h
  repeat' split at h
  all_goals first | (cases h; done) | (injection h with h; subst h; intro p hp; revert hp; simp; done) | (injection h with h; subst h; intro p hp; simp at hp; omega)
theorem rowOf_len (k : Int) : ((rowOf k).getD []).length ≤ 4 := by
  unfold rowOf
  repeat' split
  all_goals simp
end Go.Proofs.Ytcdmjjlbeifgjaa
