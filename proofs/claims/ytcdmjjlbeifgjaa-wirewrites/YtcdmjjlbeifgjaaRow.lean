/- wire's rowOf: the parts of a kind, and whether there is such a kind. -/
import Derived.Test.YtcdmjjlbeifgjaaInts
namespace Go.Proofs.Ytcdmjjlbeifgjaa
open Go.RowKit

/-- What rowOf answers at a kind. -/
def Rowed (k : Int) (l : List Int) (is : Bool) (w : World) : Prop :=
  Calls Try.prog 19 #[.int .i64 k] w fun e w' => ∃ sp cap, e = .returned (.tuple #[.slice sp l.length cap, .bool is]) ∧ OwnI w' w.heap.size 50 (.slice sp l.length cap) l ∧ Below w.heap.size w w'
set_option maxRecDepth 20000 in
set_option maxHeartbeats 1000000 in
theorem row1 (w : World) : Rowed 1 [] true w := by
  unfold Rowed
  go_enter Try.func19, Try.ntmps19
  go_wp2
  go_ret2
  exact ⟨none, 0, rfl, OwnI.nil _ _ _, Below.refl _ _⟩
set_option maxRecDepth 20000 in
set_option maxHeartbeats 1000000 in
theorem row4 (w : World) : Rowed 4 [4] true w := by
  unfold Rowed
  go_enter Try.func19, Try.ntmps19
  go_wp2_with (at_builtin; (refine appendIk (.tmp 28) (.tmp 29) 45 50 (by rfl) (by rfl) w.heap.size Try.underlying45 info50 (.slice none 0 0) [] (by rfl) ?ho (some ⟨w.heap.size, 0, none⟩) 1 1 [4] (by rfl) rfl ?hnil ?hby (by decide) ?hB ?_; (case ho => exact OwnI.nil _ _ _); (case hnil => exact (fun h => by cases h)); (case hby => exact (ints_new w 50 [4])); (case hB => simp); simp only [List.nil_append, List.length_cons, List.length_nil, Nat.zero_add]; intro sp5 cap5 w5 o5 b5 _))
  go_ret2
  exact ⟨sp5, cap5, rfl, o5, ((Below.refl _ _).alloc (Nat.le_refl _) _).trans b5⟩
set_option maxRecDepth 20000 in
set_option maxHeartbeats 1000000 in
theorem row5 (w : World) : Rowed 5 [5] true w := by
  unfold Rowed
  go_enter Try.func19, Try.ntmps19
  go_wp2_with (at_builtin; (refine appendIk (.tmp 31) (.tmp 32) 45 50 (by rfl) (by rfl) w.heap.size Try.underlying45 info50 (.slice none 0 0) [] (by rfl) ?ho (some ⟨w.heap.size, 0, none⟩) 1 1 [5] (by rfl) rfl ?hnil ?hby (by decide) ?hB ?_; (case ho => exact OwnI.nil _ _ _); (case hnil => exact (fun h => by cases h)); (case hby => exact (ints_new w 50 [5])); (case hB => simp); simp only [List.nil_append, List.length_cons, List.length_nil, Nat.zero_add]; intro sp5 cap5 w5 o5 b5 _))
  go_ret2
  exact ⟨sp5, cap5, rfl, o5, ((Below.refl _ _).alloc (Nat.le_refl _) _).trans b5⟩
set_option maxRecDepth 20000 in
set_option maxHeartbeats 1000000 in
theorem row7 (w : World) : Rowed 7 [5] true w := by
  unfold Rowed
  go_enter Try.func19, Try.ntmps19
  go_wp2_with (at_builtin; (refine appendIk (.tmp 31) (.tmp 32) 45 50 (by rfl) (by rfl) w.heap.size Try.underlying45 info50 (.slice none 0 0) [] (by rfl) ?ho (some ⟨w.heap.size, 0, none⟩) 1 1 [5] (by rfl) rfl ?hnil ?hby (by decide) ?hB ?_; (case ho => exact OwnI.nil _ _ _); (case hnil => exact (fun h => by cases h)); (case hby => exact (ints_new w 50 [5])); (case hB => simp); simp only [List.nil_append, List.length_cons, List.length_nil, Nat.zero_add]; intro sp5 cap5 w5 o5 b5 _))
  go_ret2
  exact ⟨sp5, cap5, rfl, o5, ((Below.refl _ _).alloc (Nat.le_refl _) _).trans b5⟩
set_option maxRecDepth 20000 in
set_option maxHeartbeats 1000000 in
theorem row11 (w : World) : Rowed 11 [5] true w := by
  unfold Rowed
  go_enter Try.func19, Try.ntmps19
  go_wp2_with (at_builtin; (refine appendIk (.tmp 31) (.tmp 32) 45 50 (by rfl) (by rfl) w.heap.size Try.underlying45 info50 (.slice none 0 0) [] (by rfl) ?ho (some ⟨w.heap.size, 0, none⟩) 1 1 [5] (by rfl) rfl ?hnil ?hby (by decide) ?hB ?_; (case ho => exact OwnI.nil _ _ _); (case hnil => exact (fun h => by cases h)); (case hby => exact (ints_new w 50 [5])); (case hB => simp); simp only [List.nil_append, List.length_cons, List.length_nil, Nat.zero_add]; intro sp5 cap5 w5 o5 b5 _))
  go_ret2
  exact ⟨sp5, cap5, rfl, o5, ((Below.refl _ _).alloc (Nat.le_refl _) _).trans b5⟩
set_option maxRecDepth 20000 in
set_option maxHeartbeats 1000000 in
theorem row2 (w : World) : Rowed 2 [0, 2] true w := by
  unfold Rowed
  go_enter Try.func19, Try.ntmps19
  go_wp2_with (at_builtin; (refine appendIk (.tmp 34) (.tmp 35) 45 50 (by rfl) (by rfl) w.heap.size Try.underlying45 info50 (.slice none 0 0) [] (by rfl) ?ho (some ⟨w.heap.size, 0, none⟩) 2 2 [0, 2] (by rfl) rfl ?hnil ?hby (by decide) ?hB ?_; (case ho => exact OwnI.nil _ _ _); (case hnil => exact (fun h => by cases h)); (case hby => exact (ints_new w 50 [0, 2])); (case hB => simp); simp only [List.nil_append, List.length_cons, List.length_nil, Nat.zero_add, Nat.reduceAdd]; intro sp5 cap5 w5 o5 b5 _))
  go_ret2
  exact ⟨sp5, cap5, rfl, o5, ((Below.refl _ _).alloc (Nat.le_refl _) _).trans b5⟩
set_option maxRecDepth 20000 in
set_option maxHeartbeats 1000000 in
theorem row6 (w : World) : Rowed 6 [3, 2] true w := by
  unfold Rowed
  go_enter Try.func19, Try.ntmps19
  go_wp2_with (at_builtin; (refine appendIk (.tmp 37) (.tmp 38) 45 50 (by rfl) (by rfl) w.heap.size Try.underlying45 info50 (.slice none 0 0) [] (by rfl) ?ho (some ⟨w.heap.size, 0, none⟩) 2 2 [3, 2] (by rfl) rfl ?hnil ?hby (by decide) ?hB ?_; (case ho => exact OwnI.nil _ _ _); (case hnil => exact (fun h => by cases h)); (case hby => exact (ints_new w 50 [3, 2])); (case hB => simp); simp only [List.nil_append, List.length_cons, List.length_nil, Nat.zero_add, Nat.reduceAdd]; intro sp5 cap5 w5 o5 b5 _))
  go_ret2
  exact ⟨sp5, cap5, rfl, o5, ((Below.refl _ _).alloc (Nat.le_refl _) _).trans b5⟩
set_option maxRecDepth 20000 in
set_option maxHeartbeats 1000000 in
theorem row8 (w : World) : Rowed 8 [4, 6] true w := by
  unfold Rowed
  go_enter Try.func19, Try.ntmps19
  go_wp2_with (at_builtin; (refine appendIk (.tmp 40) (.tmp 41) 45 50 (by rfl) (by rfl) w.heap.size Try.underlying45 info50 (.slice none 0 0) [] (by rfl) ?ho (some ⟨w.heap.size, 0, none⟩) 2 2 [4, 6] (by rfl) rfl ?hnil ?hby (by decide) ?hB ?_; (case ho => exact OwnI.nil _ _ _); (case hnil => exact (fun h => by cases h)); (case hby => exact (ints_new w 50 [4, 6])); (case hB => simp); simp only [List.nil_append, List.length_cons, List.length_nil, Nat.zero_add, Nat.reduceAdd]; intro sp5 cap5 w5 o5 b5 _))
  go_ret2
  exact ⟨sp5, cap5, rfl, o5, ((Below.refl _ _).alloc (Nat.le_refl _) _).trans b5⟩
set_option maxRecDepth 20000 in
set_option maxHeartbeats 1000000 in
theorem row10 (w : World) : Rowed 10 [5, 6] true w := by
  unfold Rowed
  go_enter Try.func19, Try.ntmps19
  go_wp2_with (at_builtin; (refine appendIk (.tmp 43) (.tmp 44) 45 50 (by rfl) (by rfl) w.heap.size Try.underlying45 info50 (.slice none 0 0) [] (by rfl) ?ho (some ⟨w.heap.size, 0, none⟩) 2 2 [5, 6] (by rfl) rfl ?hnil ?hby (by decide) ?hB ?_; (case ho => exact OwnI.nil _ _ _); (case hnil => exact (fun h => by cases h)); (case hby => exact (ints_new w 50 [5, 6])); (case hB => simp); simp only [List.nil_append, List.length_cons, List.length_nil, Nat.zero_add, Nat.reduceAdd]; intro sp5 cap5 w5 o5 b5 _))
  go_ret2
  exact ⟨sp5, cap5, rfl, o5, ((Below.refl _ _).alloc (Nat.le_refl _) _).trans b5⟩
set_option maxRecDepth 20000 in
set_option maxHeartbeats 1000000 in
theorem row12 (w : World) : Rowed 12 [6, 1, 7] true w := by
  unfold Rowed
  go_enter Try.func19, Try.ntmps19
  go_wp2_with (at_builtin; (refine appendIk (.tmp 49) (.tmp 50) 45 50 (by rfl) (by rfl) w.heap.size Try.underlying45 info50 (.slice none 0 0) [] (by rfl) ?ho (some ⟨w.heap.size, 0, none⟩) 3 3 [6, 1, 7] (by rfl) rfl ?hnil ?hby (by decide) ?hB ?_; (case ho => exact OwnI.nil _ _ _); (case hnil => exact (fun h => by cases h)); (case hby => exact (ints_new w 50 [6, 1, 7])); (case hB => simp); simp only [List.nil_append, List.length_cons, List.length_nil, Nat.zero_add, Nat.reduceAdd]; intro sp5 cap5 w5 o5 b5 _))
  go_ret2
  exact ⟨sp5, cap5, rfl, o5, ((Below.refl _ _).alloc (Nat.le_refl _) _).trans b5⟩
set_option maxRecDepth 20000 in
set_option maxHeartbeats 1000000 in
theorem row3 (w : World) : Rowed 3 [1] true w := by
  unfold Rowed
  go_enter Try.func19, Try.ntmps19
  go_wp2_with (at_builtin; (refine appendIk (.tmp 52) (.tmp 53) 45 50 (by rfl) (by rfl) w.heap.size Try.underlying45 info50 (.slice none 0 0) [] (by rfl) ?ho (some ⟨w.heap.size, 0, none⟩) 1 1 [1] (by rfl) rfl ?hnil ?hby (by decide) ?hB ?_; (case ho => exact OwnI.nil _ _ _); (case hnil => exact (fun h => by cases h)); (case hby => exact (ints_new w 50 [1])); (case hB => simp); simp only [List.nil_append, List.length_cons, List.length_nil, Nat.zero_add]; intro sp5 cap5 w5 o5 b5 _))
  go_ret2
  exact ⟨sp5, cap5, rfl, o5, ((Below.refl _ _).alloc (Nat.le_refl _) _).trans b5⟩
set_option maxRecDepth 20000 in
set_option maxHeartbeats 1000000 in
theorem row9 (w : World) : Rowed 9 [5, 6, 1, 7] true w := by
  unfold Rowed
  go_enter Try.func19, Try.ntmps19
  go_wp2_with first | (at_builtin; (refine appendIk (.tmp 46) (.tmp 47) 45 50 (by rfl) (by rfl) w.heap.size Try.underlying45 info50 (.slice none 0 0) [] (by rfl) ?ho (some ⟨w.heap.size, 0, none⟩) 1 1 [5] (by rfl) rfl ?hnil ?hby (by decide) ?hB ?_; (case ho => exact OwnI.nil _ _ _); (case hnil => exact (fun h => by cases h)); (case hby => exact (ints_new w 50 [5])); (case hB => simp); simp only [List.nil_append, List.length_cons, List.length_nil, Nat.zero_add]; intro sp4 cap4 w4 o4 b4 _)) | (at_builtin; (refine appendIk (.tmp 49) (.tmp 50) 45 50 (by rfl) (by rfl) w.heap.size Try.underlying45 info50 (.slice sp4 1 cap4) [5] (by rfl) ?ho (some ⟨w4.heap.size, 0, none⟩) 3 3 [6, 1, 7] (by rfl) rfl ?hnil ?hby (by decide) ?hB ?_; (case ho => exact (o4.alloc _)); (case hnil => exact (fun h => by cases h)); (case hby => exact (ints_new w4 50 [6, 1, 7])); (case hB => have := b4.size; simp at this; simp; omega); simp only [List.cons_append, List.nil_append, List.length_cons, List.length_nil, Nat.zero_add, Nat.reduceAdd]; intro sp5 cap5 w5 o5 b5 _))
  go_ret2
  exact ⟨sp5, cap5, rfl, o5, (((Below.refl _ _).alloc (Nat.le_refl _) _).trans b4).trans (((Below.refl _ _).alloc (by have := b4.size; simp at this; omega) _).trans b5)⟩
set_option maxRecDepth 20000 in
set_option maxHeartbeats 1000000 in
theorem row0 (k : Int) (w : World) (h : rowOf k = none) : Rowed k [] false w := by
  have hn : k ≠ 1 ∧ k ≠ 2 ∧ k ≠ 3 ∧ k ≠ 4 ∧ k ≠ 5 ∧ k ≠ 6 ∧ k ≠ 7 ∧ k ≠ 8 ∧ k ≠ 9 ∧ k ≠ 10 ∧ k ≠ 11 ∧ k ≠ 12 := by
    refine ⟨?_, ?_, ?_, ?_, ?_, ?_, ?_, ?_, ?_, ?_, ?_, ?_⟩ <;> (rintro rfl; simp [rowOf] at h)
  clear h
  obtain ⟨h1, h2, h3, h4, h5, h6, h7, h8, h9, h10, h11, h12⟩ := hn
  have e1 : (k == 1) = false := by simpa using h1
  have e2 : (k == 2) = false := by simpa using h2
  have e3 : (k == 3) = false := by simpa using h3
  have e4 : (k == 4) = false := by simpa using h4
  have e5 : (k == 5) = false := by simpa using h5
  have e6 : (k == 6) = false := by simpa using h6
  have e7 : (k == 7) = false := by simpa using h7
  have e8 : (k == 8) = false := by simpa using h8
  have e9 : (k == 9) = false := by simpa using h9
  have e10 : (k == 10) = false := by simpa using h10
  have e11 : (k == 11) = false := by simpa using h11
  have e12 : (k == 12) = false := by simpa using h12
  unfold Rowed
  go_enter Try.func19, Try.ntmps19
  go_wp2
  go_ret2
  exact ⟨none, 0, rfl, OwnI.nil _ _ _, Below.refl _ _⟩

theorem rowOf_cases (k : Int) : rowOf k = none ∨ k = 1 ∨ k = 2 ∨ k = 3 ∨ k = 4 ∨ k = 5 ∨ k = 6 ∨ k = 7 ∨ k = 8 ∨ k = 9 ∨ k = 10 ∨ k = 11 ∨ k = 12 := by
  by_cases h : 1 ≤ k ∧ k ≤ 12
  · right; omega
  · left; unfold rowOf; repeat (first | rw [if_neg (by omega)] | rfl)
theorem rowOf_any (k : Int) (w : World) : Rowed k ((rowOf k).getD []) (rowOf k).isSome w := by
  rcases rowOf_cases k with h | rfl | rfl | rfl | rfl | rfl | rfl | rfl | rfl | rfl | rfl | rfl | rfl
  · rw [h]; exact row0 k w h
  · exact row1 w
  · exact row2 w
  · exact row3 w
  · exact row4 w
  · exact row5 w
  · exact row6 w
  · exact row7 w
  · exact row8 w
  · exact row9 w
  · exact row10 w
  · exact row11 w
  · exact row12 w
end Go.Proofs.Ytcdmjjlbeifgjaa
