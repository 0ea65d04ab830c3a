/- Messages, and what is written of them, as plain lists: no program in it. -/
namespace Go.Proofs.Ytcdmjjlbeifgjaa

structure M where
  kind : Int
  node : Int
  pred : Int
  list : List Int
  done : Bool
  key : List Int
  data : List Int
  lease : Int
  err : Int

/-- How many bytes a number of the form f has, its least and its greatest. -/
def bsz (f : Int) : Nat := if f = 2 then 2 else if f = 3 then 4 else 1
def blo (f : Int) : Int := if f = 3 then 1 else 0
def bhi (f : Int) : Int := if f = 0 then 9 else if f = 1 then 10 else if f = 2 then 6000 else if f = 3 then 1000 else if f = 4 then 20 else 1
theorem bsz_pos (f : Int) : 1 ≤ bsz f ∧ bsz f ≤ 4 := by unfold bsz; split; omega; split <;> omega
theorem blo_nonneg (f : Int) : 0 ≤ blo f := by unfold blo; split <;> omega
theorem bhi_le (f : Int) : bhi f ≤ 6000 := by unfold bhi; repeat (first | split | omega)

/-- The first j of a number's s bytes, the highest first. -/
def nbt (s : Nat) (n : Int) : Nat → List Int
  | 0 => []
  | j + 1 => nbt s n j ++ [n / 256 ^ (s - 1 - j) % 256]
def nb (s : Nat) (n : Int) : List Int := nbt s n s
theorem nbt_length (s : Nat) (n : Int) (j : Nat) : (nbt s n j).length = j := by induction j <;> simp [nbt, *]
theorem nb_length (s : Nat) (n : Int) : (nb s n).length = s := nbt_length _ _ _
theorem nb_one (n : Int) : nb 1 n = [n / 1 % 256] := rfl
theorem nb_two (n : Int) : nb 2 n = [n / 256 % 256, n / 1 % 256] := rfl
theorem nb_four (n : Int) : nb 4 n = [n / 16777216 % 256, n / 65536 % 256, n / 256 % 256, n / 1 % 256] := rfl

def numE (f n e : Int) : Int := if n < blo f ∨ bhi f < n then e else 0
/-- What the writing of a list of nodes comes to, from the first on. -/
def nodesE : List Int → Int
  | [] => 0
  | n :: l => if n < 0 ∨ 9 < n then 1 else nodesE l
def listE (l : List Int) : Int := if 10 < l.length then 4 else nodesE l
def dataE (l : List Int) : Int := if 6000 < l.length then 5 else 0
/-- A part of a message: whether it may be written, and its bytes. -/
def partE (p : Int) (m : M) : Int :=
  if p = 0 then (if m.pred = -1 then 0 else numE 0 m.pred 1) else
  if p = 1 then numE 0 m.node 1 else
  if p = 2 then listE m.list else
  if p = 3 then 0 else
  if p = 4 then numE 4 m.err 1 else
  if p = 5 then 0 else
  if p = 6 then dataE m.data else numE 3 m.lease 1
def partB (p : Int) (m : M) : List Int :=
  if p = 0 then (if m.pred = -1 then [255] else nb 1 m.pred) else
  if p = 1 then nb 1 m.node else
  if p = 2 then nb 1 m.list.length ++ m.list.flatMap (nb 1) else
  if p = 3 then [if m.done then 1 else 0] else
  if p = 4 then nb 1 m.err else
  if p = 5 then m.key else
  if p = 6 then nb 2 m.data.length ++ m.data else nb 4 m.lease

def rowOf (k : Int) : Option (List Int) :=
  if k = 1 then some [] else if k = 4 then some [4] else if k = 5 ∨ k = 7 ∨ k = 11 then some [5] else if k = 2 then some [0, 2] else if k = 6 then some [3, 2] else
  if k = 8 then some [4, 6] else if k = 10 then some [5, 6] else if k = 9 then some [5, 6, 1, 7] else if k = 12 then some [6, 1, 7] else if k = 3 then some [1] else none

def rowE (m : M) : List Int → Int
  | [] => 0
  | p :: r => if partE p m = 0 then rowE m r else partE p m
def rowB (m : M) (r : List Int) : List Int := r.flatMap (fun p => partB p m)
def encE (m : M) : Int := match rowOf m.kind with | none => 3 | some r => rowE m r
def encB (m : M) : List Int := match rowOf m.kind with | none => [] | some r => if rowE m r = 0 then m.kind % 256 :: rowB m r else []
end Go.Proofs.Ytcdmjjlbeifgjaa
