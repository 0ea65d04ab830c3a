/- Inodes as plain data: how many levels so many bytes ask, what is refused, the bytes of one. No program in it. No condition. -/
import Derived.Test.YtgcffdnbihfghaaKit9
namespace Go.Proofs.Ytgcffdnbihfghaa
open Go Go.RowKit
structure Nd where
  kind : Int
  size : Int
  levels : Int
  top : List Int
/-- An inode's cells. -/
def nc (n : Nd) : Array Value := (([.int .i64 n.kind, .int .i64 n.size, .int .i64 n.levels] : List Value) ++ n.top.map (Value.int .u8)).toArray
def lvl (s : Int) : Int := if s ≤ 64 then 0 else if s ≤ 512 then 1 else if s ≤ 4096 then 2 else if s ≤ 32768 then 3 else if s ≤ 262144 then 4 else 5
theorem lvl_range (s : Int) : 0 ≤ lvl s ∧ lvl s ≤ 5 := by unfold lvl; split <;> (try split) <;> (try split) <;> (try split) <;> (try split) <;> omega
def roomN (k : Nat) : Int := 64 * 8 ^ k
theorem room_lvl {s : Int} {k : Nat} (hs : s ≤ 2097152) (hk : k ≤ 5) (h1 : ∀ j, j < k → roomN j < s) (h2 : s ≤ roomN k) : lvl s = k := by
  have e : ∀ j, roomN j = 64 * 8 ^ j := fun _ => rfl
  unfold lvl
  rcases (by omega : k = 0 ∨ k = 1 ∨ k = 2 ∨ k = 3 ∨ k = 4 ∨ k = 5) with rfl | rfl | rfl | rfl | rfl | rfl
  · have := e 0; rw [if_pos (by omega)]; rfl
  · have := e 1; have a0 := h1 0 (by omega); have := e 0; rw [if_neg (by omega), if_pos (by omega)]; rfl
  · have := e 2; have a0 := h1 1 (by omega); have := e 1; rw [if_neg (by omega), if_neg (by omega), if_pos (by omega)]; rfl
  · have := e 3; have a0 := h1 2 (by omega); have := e 2; rw [if_neg (by omega), if_neg (by omega), if_neg (by omega), if_pos (by omega)]; rfl
  · have := e 4; have a0 := h1 3 (by omega); have := e 3; rw [if_neg (by omega), if_neg (by omega), if_neg (by omega), if_neg (by omega), if_pos (by omega)]; rfl
  · have a0 := h1 4 (by omega); have := e 4; rw [if_neg (by omega), if_neg (by omega), if_neg (by omega), if_neg (by omega), if_neg (by omega)]; rfl
theorem room_next {s : Int} {k : Nat} (hs : s ≤ 2097152) (hk : k ≤ 5) (h1 : ∀ j, j < k → roomN j < s) (h2 : roomN k < s) : k + 1 ≤ 5 ∧ (∀ j, j < k + 1 → roomN j < s) ∧ roomN k * 8 = roomN (k + 1) := by
  refine ⟨?_, fun j hj => ?_, ?_⟩
  · by_cases h : k = 5
    · subst h; have : roomN 5 = 2097152 := rfl; omega
    · omega
  · by_cases h : j = k
    · subst h; exact h2
    · exact h1 j (by omega)
  · unfold roomN; rw [Int.pow_succ]; omega
theorem room_small {k : Nat} (hk : k ≤ 5) : 64 ≤ roomN k ∧ roomN k ≤ 2097152 := by
  rcases (by omega : k = 0 ∨ k = 1 ∨ k = 2 ∨ k = 3 ∨ k = 4 ∨ k = 5) with rfl | rfl | rfl | rfl | rfl | rfl <;> decide
/-- Its size may be, and the rest fits it. -/
def okN (n : Nd) : Bool := !(decide (n.size < 0) || decide (n.size > 1048576) || decide (n.levels ≠ lvl n.size) || decide (n.size = 0) && decide (n.top ≠ zer 32))
def errN (n : Nd) : Int := if n.kind ≠ 1 ∧ n.kind ≠ 2 then 3 else if okN n = true then 0 else 1
def n4 (q : Int) : List Int := [q / 16777216 % 256, q / 65536 % 256, q / 256 % 256, q % 256]
theorem n4_len (q : Int) : (n4 q).length = 4 := rfl
def encN (n : Nd) : List Int := [105, n.kind] ++ n4 n.size ++ [n.levels] ++ n.top
def outN (n : Nd) : List Int := if errN n = 0 then encN n else []
end Go.Proofs.Ytgcffdnbihfghaa
