/- What the reference writes of a message, as plain lists: it is what the document's row says. -/
import Derived.Test.YtcdmjjlbeifgjaaRw3
import Derived.Test.YtcdmjjlbeifgjaaEncMath
namespace Go.Proofs.Ytcdmjjlbeifgjaa

def fst2 (E e : Int) : Int := if E = 0 then e else E
def rB (p : Int) (m : M) : List Int :=
  if p = 0 then [m.pred % 256] else
  if p = 1 then [m.node % 256] else
  if p = 2 then [(m.list.length : Int) % 256] ++ m.list.map (· % 256) else
  if p = 3 then [if m.done then 1 else 0] else
  if p = 4 then [m.err % 256] else
  if p = 5 then m.key else
  if p = 6 then [(m.data.length : Int) / 256 % 256, (m.data.length : Int) % 256] ++ m.data else [m.lease / 16777216 % 256, m.lease / 65536 % 256, m.lease / 256 % 256, m.lease % 256]
theorem firstE_fst2 (E : Int) (is : Bool) (e : Int) : firstE E is e = fst2 E (if is = true then e else 0) := by
  unfold firstE fst2
  by_cases h : E = 0
  · subst h; cases is <;> simp
  · simp [h]
theorem fst2_zero (E : Int) : fst2 E 0 = E := by unfold fst2; split <;> simp_all
theorem fst2_assoc (a b c : Int) : fst2 (fst2 a b) c = fst2 a (fst2 b c) := by unfold fst2; split <;> simp_all
theorem nodesF_fst2 (l : List Int) : ∀ E, nodesF E l = fst2 E (nodesE l) := by
  induction l with
  | nil => intro E; rw [show nodesE [] = 0 from rfl, fst2_zero]; rfl
  | cons n l ih =>
    intro E
    rw [show nodesF E (n :: l) = nodesF (firstE E (decide (n < 0) || decide (10 ≤ n)) 1) l from rfl, ih, firstE_fst2, fst2_assoc]
    congr 1
    rw [show nodesE (n :: l) = if n < 0 ∨ 9 < n then 1 else nodesE l from rfl]
    unfold fst2
    by_cases h : n < 0 ∨ 9 < n
    · rw [if_pos h, if_neg (by simp; omega), if_pos (by simp; omega)]
    · rw [if_neg h, if_pos (by simp; omega)]
theorem list_fst2 (E : Int) (l : List Int) : nodesF (firstE E (decide (10 < (l.length : Int))) 4) l = fst2 E (listE l) := by
  rw [nodesF_fst2, firstE_fst2, fst2_assoc]
  congr 1
  unfold listE fst2
  by_cases h : 10 < l.length
  · rw [if_pos h, if_neg (by simp; omega), if_pos (by simp; omega)]
  · rw [if_neg h, if_pos (by simp; omega)]
theorem rB_eq (p : Int) (m : M) (_h : partE p m = 0) : rB p m = partB p m := by
  unfold rB partB
  repeat' split
  all_goals (try rfl)
  all_goals (try (simp [nb_one, nb_two, nb_four]; done))
  · rename_i h0 h1; rw [h1]; decide
  · simp only [nb_one, Int.ediv_one]
    congr 1
    induction m.list with
    | nil => rfl
    | cons x l ih => simp [nb_one, ih]
theorem rB_len (p : Int) (m : M) (hk : m.key.length = 32) (hll : m.list.length ≤ 100000) (hdl : m.data.length ≤ 100000) : (rB p m).length ≤ 100002 := by
  unfold rB
  repeat' split
  all_goals (try simp only [List.length_append, List.length_map, List.length_cons, List.length_nil])
  all_goals omega
theorem rowE_one (m : M) (p : Int) : rowE m [p] = partE p m := by unfold rowE; split <;> simp_all [rowE]
theorem rowE_cons (m : M) (p : Int) (r : List Int) : rowE m (p :: r) = fst2 (partE p m) (rowE m r) := rfl
theorem rowB_rB (m : M) (r : List Int) (h : rowE m r = 0) : rowB m r = r.flatMap (fun p => rB p m) := by
  induction r with
  | nil => rfl
  | cons p r ih =>
    rw [rowE] at h
    by_cases hp : partE p m = 0
    · rw [if_pos hp] at h
      rw [show rowB m (p :: r) = partB p m ++ rowB m r from rfl, ih h, List.flatMap_cons, rB_eq p m hp]
    · rw [if_neg hp] at h; exact absurd h hp
end Go.Proofs.Ytcdmjjlbeifgjaa
