/- The chapter's example; numbers from 0 on; bytes as texts. -/
import Derived.Test.YtcdmjjlbeifgjaaEncode
import Derived.Laws.BytesArg
namespace Go.Proofs.Ytcdmjjlbeifgjaa
open Go.RowKit

/-- A text of bytes that lie where a slice says. -/
theorem run_str (w : World) (sp : Option Addr) (n cap : Nat) (cs : List Int) (hn : cs.length = n) (hb : Bytes w sp cs) (hnil : sp = none → n = 0) : (convert 25 9 (.slice sp n cap)).run Try.prog w = .ok (.string (strOfNums cs)) w := by
  subst hn
  by_cases h : 0 < cs.length
  · obtain ⟨b, o, rfl, hc⟩ := hb h
    exact run_convert_bytes_arg w 25 5 Try.underlying25 Try.underlying5 b o _ cap cs rfl hc 9 Try.underlying9
  · have h0 : cs = [] := List.eq_nil_of_length_eq_zero (by omega)
    subst h0
    rw [run_convert_bytes_string w 25 9 5 sp _ cap Try.underlying25 Try.underlying5 Try.underlying9]
    cases sp <;> simp [Conv.bytesToString, strOfNums, loadCells, loadCellsFrom] <;> rfl

theorem tmod_neg {a n : Int} (hn : 0 < n) (h : a.tmod n < 0) : a.tmod n + n = a % n := by
  have := Int.tmod_eq_emod (a := a) (b := n)
  split at this
  · have h2 := Int.emod_nonneg a (show n ≠ 0 by omega); omega
  · omega
theorem tmod_pos {a n : Int} (hn : 0 < n) (h : ¬ a.tmod n < 0) : a.tmod n = a % n := by
  have := Int.tmod_eq_emod (a := a) (b := n)
  have h1 := Int.emod_lt_of_pos a hn
  split at this
  · omega
  · omega
set_option maxRecDepth 20000 in
theorem within_any (a n : Int) (w : World) (hn : 0 < n) (hn2 : n ≤ 4611686018427387904) :
    Calls Try.prog 17 #[.int .i64 a, .int .i64 n] w fun e w' => e = .returned (.int .i64 (a % n)) ∧ w' = w := by
  have hne : (n == 0) = false := by simp; omega
  have hne' : n ≠ 0 := by omega
  have hlo : -n < a.tmod n := by
    have := Int.lt_tmod_of_pos a hn; omega
  by_cases h : a.tmod n < 0
  · have e := tmod_neg hn h
    go_enter Try.func17, Try.ntmps17
    go_wp2
    go_ret
    exact ⟨rfl, rfl⟩
  · have e := tmod_pos hn h
    rw [← e]
    go_enter Try.func17, Try.ntmps17
    go_wp2
    go_ret
    exact ⟨rfl, rfl⟩

def m3 : M := ⟨3, 3, 0, [], false, List.replicate 32 0, [], 0, 0⟩
set_option maxRecDepth 20000 in
set_option maxHeartbeats 1000000 in
theorem known_any (w : World) : Calls Try.prog 9 #[] w fun e w' => e = .returned (.bool true) ∧ Below w.heap.size w w' := by
  have henc : ∀ w1, Calls Try.prog 11 #[.agg #[.int .i64 3, .int .i64 3, .int .i64 0, .slice none 0 0, .bool false, .int .u8 0, .int .u8 0, .int .u8 0, .int .u8 0, .int .u8 0, .int .u8 0, .int .u8 0, .int .u8 0, .int .u8 0, .int .u8 0, .int .u8 0, .int .u8 0, .int .u8 0, .int .u8 0, .int .u8 0, .int .u8 0, .int .u8 0, .int .u8 0, .int .u8 0, .int .u8 0, .int .u8 0, .int .u8 0, .int .u8 0, .int .u8 0, .int .u8 0, .int .u8 0, .int .u8 0, .int .u8 0, .int .u8 0, .int .u8 0, .int .u8 0, .int .u8 0, .slice none 0 0, .int .i64 0, .int .i64 0]] w1 fun e w' => ∃ sp cap, e = .returned (.tuple #[.slice sp 2 cap, .int .i64 0]) ∧ Own8 w' w1.heap.size 5 (.slice sp 2 cap) [3, 3] ∧ Below w1.heap.size w1 w' :=
    fun w1 => encode_any m3 none none 0 0 w1 ⟨rfl, Ints.nil _ _, Bytes.nil _ _, by decide, by decide, fun _ => ⟨rfl, rfl⟩⟩ (by decide) (by decide)
  have hst : strOfNums [3, 3] = ⟨#[3, 3]⟩ := rfl
  go_enter Try.func9, Try.ntmps9
  go_wp2_with (go_at_call 11; (with_reducible refine Calls.mono (henc _) ?_); rintro e w2 ⟨sp, cap, rfl, ho, hb⟩; have hs := run_str w2 sp 2 cap [3, 3] rfl ho.bytes (fun h => by subst h; obtain ⟨_, ho⟩ := ho; rcases ho with ⟨h, _⟩ | ⟨_, _, _, h, _⟩ <;> cases h); rw [hst] at hs)
  go_ret
  exact ⟨rfl, hb⟩
end Go.Proofs.Ytcdmjjlbeifgjaa
