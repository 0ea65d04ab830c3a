/- What any bytes say, as plain lists: no program in it. -/
import Derived.Test.YtcdmjjlbeifgjaaRmodel3
namespace Go.Proofs.Ytcdmjjlbeifgjaa

def mK (k : Int) : M := ⟨k, 0, 0, [], false, List.replicate 32 0, [], 0, 0⟩
def rowRR (r l : List Int) : List Int := r.foldl (fun l p => pRR p l) l
def rowRM : List Int → List Int → M → M
  | [], _, m => m
  | p :: r, l, m => rowRM r (pRR p l) (pRM p l m)
def rowRE : List Int → List Int → Int
  | [], _ => 0
  | p :: r, l => if pRE p l = 0 then rowRE r (pRR p l) else pRE p l
def parE : List Int → Int
  | [] => 8
  | k :: t => match rowOf k with
    | none => 3
    | some r => if rowRE r t = 0 then (if 0 < (rowRR r t).length then 9 else 0) else rowRE r t
def parM : List Int → M
  | [] => mK 0
  | k :: t => match rowOf k with
    | none => mK 0
    | some r => if parE (k :: t) = 0 then rowRM r t (mK k) else mK 0
theorem rowRR_snoc (r l : List Int) (p : Int) : rowRR (r ++ [p]) l = pRR p (rowRR r l) := by simp [rowRR]
theorem rowRM_snoc : ∀ (r l : List Int) (p : Int) (m : M), rowRM (r ++ [p]) l m = pRM p (rowRR r l) (rowRM r l m)
  | [], _, _, _ => rfl
  | q :: r, l, p, m => rowRM_snoc r (pRR q l) p (pRM q l m)
theorem rowRE_snoc : ∀ (r l : List Int) (p : Int), rowRE r l = 0 → rowRE (r ++ [p]) l = pRE p (rowRR r l)
  | [], l, p, _ => by
    show (if pRE p l = 0 then 0 else pRE p l) = pRE p l
    split
    · rename_i h; rw [h]
    · rfl
  | q :: r, l, p, h => by
    rw [rowRE] at h
    rw [List.cons_append, rowRE]
    split
    · rename_i h1; rw [if_pos h1] at h; exact rowRE_snoc r _ p h
    · rename_i h1; rw [if_neg h1] at h; exact absurd h h1
theorem rowRE_stop : ∀ (r t l : List Int) (p : Int), rowRE r l = 0 → pRE p (rowRR r l) ≠ 0 → rowRE (r ++ p :: t) l = pRE p (rowRR r l)
  | [], t, l, p, _, h => by
    show (if pRE p l = 0 then _ else pRE p l) = pRE p l
    exact if_neg h
  | q :: r, t, l, p, h, hp => by
    rw [rowRE] at h
    rw [List.cons_append, rowRE]
    split
    · rename_i h1; rw [if_pos h1] at h; exact rowRE_stop r t _ p h hp
    · rename_i h1; rw [if_neg h1] at h; exact absurd h h1
theorem pRR_drop (p : Int) (l : List Int) : ∃ n, pRR p l = l.drop n := by
  unfold pRR
  repeat' split
  all_goals exact ⟨_, rfl⟩
theorem rowRR_drop : ∀ (r l : List Int), ∃ n, rowRR r l = l.drop n
  | [], l => ⟨0, rfl⟩
  | p :: r, l => by
    obtain ⟨n, hn⟩ := pRR_drop p l
    obtain ⟨k, hk⟩ := rowRR_drop r (pRR p l)
    exact ⟨n + k, by show rowRR r (pRR p l) = _; rw [hk, hn, List.drop_drop]⟩
end Go.Proofs.Ytcdmjjlbeifgjaa
