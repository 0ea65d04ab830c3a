/- known, within, and BlobSizes: the law returns true and turns no old memory, for any numbers. No condition. -/
import Derived.Test.YtgcffdnbihfghaaInode
namespace Go.Proofs.Ytgcffdnbihfghaa
open Go Go.RowKit
set_option maxRecDepth 20000 in
set_option maxHeartbeats 1000000 in
theorem inner_nil (w : World) : Calls Try.prog 16 #[.slice none 0 0] w fun e w' => e = .returned (.tuple #[.slice none 0 0, .int .i64 1]) ∧ w' = w := by
  go_enter Try.func16, Try.ntmps16
  go_wp2
  go_ret2
  exact ⟨rfl, rfl⟩
set_option maxRecDepth 20000 in
set_option maxHeartbeats 1000000 in
theorem known_any (w : World) : Calls Try.prog 9 #[] w fun e w' => e = .returned (.bool true) ∧ Below w.heap.size w w' := by
  have hi := fun wx => inode_any ⟨1, 0, 0, zer 32⟩ wx rfl
  have hE : errN ⟨1, 0, 0, zer 32⟩ = 0 := by decide
  have hO : outN ⟨1, 0, 0, zer 32⟩ = encN ⟨1, 0, 0, zer 32⟩ := outN_ok hE
  have hlen : (encN ⟨1, 0, 0, zer 32⟩).length = 39 := rfl
  have hh : gi (encN ⟨1, 0, 0, zer 32⟩) 0 = 105 := rfl
  simp only [hE, hO] at hi
  have hn : nc ⟨1, 0, 0, zer 32⟩ = #[.int .i64 1, .int .i64 0, .int .i64 0, .int .u8 0, .int .u8 0, .int .u8 0, .int .u8 0, .int .u8 0, .int .u8 0, .int .u8 0, .int .u8 0, .int .u8 0, .int .u8 0, .int .u8 0, .int .u8 0, .int .u8 0, .int .u8 0, .int .u8 0, .int .u8 0, .int .u8 0, .int .u8 0, .int .u8 0, .int .u8 0, .int .u8 0, .int .u8 0, .int .u8 0, .int .u8 0, .int .u8 0, .int .u8 0, .int .u8 0, .int .u8 0, .int .u8 0, .int .u8 0, .int .u8 0, .int .u8 0] := rfl
  rw [hn] at hi
  clear hE hO hn
  generalize encN ⟨1, 0, 0, zer 32⟩ = L at hi hlen hh
  unfold Gives at hi
  go_enter Try.func9, Try.ntmps9
  go_upto_region 3 with (first | (go_at_call 16; (with_reducible refine Calls.mono (inner_nil _) ?_); rintro e w1 ⟨rfl, hw⟩; obtain rfl := hw.symm; clear hw) | (go_at_call 11; (with_reducible refine Calls.mono (hi _) ?_); rintro e w2 ⟨sp, cap, rfl, ho, hb⟩))
  rw [hlen] at ho
  obtain ⟨b, o, rfl, hc⟩ := ho.bytes (by omega)
  have c0 : w2.cell? ⟨b, o, none⟩ = _ := hc 0 (by omega)
  rw [hh] at c0
  clear hc ho hi
  go_wp2
  go_ret
  exact ⟨rfl, hb⟩
theorem tmod_neg {a n : Int} (hn : 0 < n) (h : a.tmod n < 0) : a.tmod n + n = a % n := by
  have := Int.tmod_eq_emod (a := a) (b := n)
  split at this
  · have h2 := Int.emod_nonneg a (show n ≠ 0 by omega); omega
  · omega
theorem tmod_pos {a n : Int} (hn : 0 < n) (h : ¬ a.tmod n < 0) : a.tmod n = a % n := by
  have := Int.tmod_eq_emod (a := a) (b := n)
  have h1 := Int.emod_lt_of_pos a hn
  split at this
  · omega
  · omega
set_option maxRecDepth 20000 in
theorem within_any (a n : Int) (w : World) (hn : 0 < n) (hn2 : n ≤ 4611686018427387904) :
    Calls Try.prog 27 #[.int .i64 a, .int .i64 n] w fun e w' => e = .returned (.int .i64 (a % n)) ∧ w' = w := by
  have hne : (n == 0) = false := by simp; omega
  have hne' : n ≠ 0 := by omega
  have hlo : -n < a.tmod n := by
    have := Int.lt_tmod_of_pos a hn; omega
  by_cases h : a.tmod n < 0
  · have e := tmod_neg hn h
    go_enter Try.func27, Try.ntmps27
    go_wp2
    go_ret
    exact ⟨rfl, rfl⟩
  · have e := tmod_pos hn h
    rw [← e]
    go_enter Try.func27, Try.ntmps27
    go_wp2
    go_ret
    exact ⟨rfl, rfl⟩
end Go.Proofs.Ytgcffdnbihfghaa
