/- IdentNodes returns true and turns no old memory, for any two numbers, where firstState and roundWords hold what the text lays. -/
import Derived.Test.YtkmhnpkkkhglpaaDoorOf
import Derived.Test.YtkmhnpkkkhglpaaDoorIKnown
import Derived.Test.YtkmhnpkkkhglpaaDoorNodesApart
namespace Go.Proofs.YtkmhnpkkkhglpaaDoor
open Go.RowKit

set_option maxRecDepth 20000 in
set_option maxHeartbeats 1000000 in
theorem nodes_early (i j : Int) (w : World) (h : i < 0 ∨ 255 < i ∨ j < 0 ∨ 255 < j) :
    Calls Tryd.prog 3 #[.int .i64 i, .int .i64 j] w fun e w' => e = .returned (.bool true) ∧ Below w.heap.size w w' := by
  by_cases h1 : i < 0
  · have g1 : decide (i < 0) = true := by simpa using h1
    go_enter Tryd.func3, Tryd.ntmps3
    go_wp2_with (first | (go_at_call 4; with_reducible refine Calls.mono (known_any _) ?_; rintro e wk ⟨rfl, hbk⟩; have hB := hbk))
    go_ret
    exact ⟨rfl, hB⟩
  · have g1 : decide (i < 0) = false := by simpa using h1
    by_cases h2 : 255 < i
    · have g2 : decide (255 < i) = true := by simpa using h2
      go_enter Tryd.func3, Tryd.ntmps3
      go_wp2_with (first | (go_at_call 4; with_reducible refine Calls.mono (known_any _) ?_; rintro e wk ⟨rfl, hbk⟩; have hB := hbk))
      go_ret
      exact ⟨rfl, hB⟩
    · have g2 : decide (255 < i) = false := by simpa using h2
      by_cases h3 : j < 0
      · have g3 : decide (j < 0) = true := by simpa using h3
        go_enter Tryd.func3, Tryd.ntmps3
        go_wp2_with (first | (go_at_call 4; with_reducible refine Calls.mono (known_any _) ?_; rintro e wk ⟨rfl, hbk⟩; have hB := hbk))
        go_ret
        exact ⟨rfl, hB⟩
      · have g3 : decide (j < 0) = false := by simpa using h3
        have g4 : decide (255 < j) = true := by simp; omega
        go_enter Tryd.func3, Tryd.ntmps3
        go_wp2_with (first | (go_at_call 4; with_reducible refine Calls.mono (known_any _) ?_; rintro e wk ⟨rfl, hbk⟩; have hB := hbk))
        go_ret
        exact ⟨rfl, hB⟩

set_option maxRecDepth 20000 in
set_option maxHeartbeats 1000000 in
theorem nodes_same (i : Nat) (X : List Int) (w : World) (hX : X.length = 32) (hi : i < 256)
    (c1 : ∀ wx, Below w.heap.size w wx → Calls Tryd.prog 5 #[.int .i64 i] wx fun e w' => e = .returned (.agg (v8 X)) ∧ Below wx.heap.size wx w')
    (c3 : ∀ wx, Calls Tryd.prog 6 #[.int .i64 i] wx fun e w' => e = .returned (.agg (v8 X)) ∧ Below wx.heap.size wx w') :
    Calls Tryd.prog 3 #[.int .i64 i, .int .i64 i] w fun e w' => e = .returned (.bool true) ∧ Below w.heap.size w w' := by
  have g1 : decide ((i : Int) < 0) = false := by simp
  have g2 : decide ((255 : Int) < (i : Int)) = false := by simp; omega
  have q1 : ∀ wx, (binOp .eql 24 (.agg (v8 X)) (.agg (v8 X))).run Tryd.prog wx = .ok (.bool true) wx := fun wx => by
    rw [run_eql_bytes wx 24 5 32 _ _ Tryd.underlying24 Tryd.underlying5 (by kernel_rfl) hX hX]; simp
  go_enter Tryd.func3, Tryd.ntmps3
  go_wp2_with (first | (go_at_call 4; with_reducible refine Calls.mono (known_any _) ?_; rintro e wk ⟨rfl, hbk⟩; have hB := hbk) | (go_at_call 5; with_reducible refine Calls.mono (c1 _ hB) ?_; rintro e w1 ⟨rfl, hb1⟩; have hB := hB.trans (hb1.mono hB.size)) | (go_at_call 6; with_reducible refine Calls.mono (c3 _) ?_; rintro e w1 ⟨rfl, hb1⟩; have hB := hB.trans (hb1.mono hB.size)))
  go_ret
  exact ⟨rfl, hB⟩

set_option maxRecDepth 20000 in
set_option maxHeartbeats 1000000 in
theorem nodes_other (i j : Nat) (X Y : List Int) (w : World) (hX : X.length = 32) (hY : Y.length = 32) (hi : i < 256) (hj : j < 256) (he : i ≠ j) (hXY : X ≠ Y)
    (c1 : ∀ wx, Below w.heap.size w wx → Calls Tryd.prog 5 #[.int .i64 i] wx fun e w' => e = .returned (.agg (v8 X)) ∧ Below wx.heap.size wx w')
    (c2 : ∀ wx, Below w.heap.size w wx → Calls Tryd.prog 5 #[.int .i64 j] wx fun e w' => e = .returned (.agg (v8 Y)) ∧ Below wx.heap.size wx w')
    (c3 : ∀ wx, Calls Tryd.prog 6 #[.int .i64 i] wx fun e w' => e = .returned (.agg (v8 X)) ∧ Below wx.heap.size wx w') :
    Calls Tryd.prog 3 #[.int .i64 i, .int .i64 j] w fun e w' => e = .returned (.bool true) ∧ Below w.heap.size w w' := by
  have g1 : decide ((i : Int) < 0) = false := by simp
  have g2 : decide ((255 : Int) < (i : Int)) = false := by simp; omega
  have g3 : decide ((j : Int) < 0) = false := by simp
  have g4 : decide ((255 : Int) < (j : Int)) = false := by simp; omega
  have q1 : ∀ wx, (binOp .eql 24 (.agg (v8 X)) (.agg (v8 X))).run Tryd.prog wx = .ok (.bool true) wx := fun wx => by
    rw [run_eql_bytes wx 24 5 32 _ _ Tryd.underlying24 Tryd.underlying5 (by kernel_rfl) hX hX]; simp
  have q2 : ∀ wx, (binOp .eql 24 (.agg (v8 X)) (.agg (v8 Y))).run Tryd.prog wx = .ok (.bool false) wx := fun wx => by
    rw [run_eql_bytes wx 24 5 32 _ _ Tryd.underlying24 Tryd.underlying5 (by kernel_rfl) hX hY]; simp [hXY]
  have g5 : ((i : Int) == (j : Int)) = false := by simp; omega
  have g6 : ¬ ((i : Int) = (j : Int)) := by omega
  clear hXY
  go_enter Tryd.func3, Tryd.ntmps3
  go_wp2_with (first | (go_at_call 4; with_reducible refine Calls.mono (known_any _) ?_; rintro e wk ⟨rfl, hbk⟩; have hB := hbk) | (go_at_call 5; with_reducible refine Calls.mono (c1 _ hB) ?_; rintro e w1 ⟨rfl, hb1⟩; have hB := hB.trans (hb1.mono hB.size)) | (go_at_call 5; with_reducible refine Calls.mono (c2 _ hB) ?_; rintro e w1 ⟨rfl, hb1⟩; have hB := hB.trans (hb1.mono hB.size)) | (go_at_call 6; with_reducible refine Calls.mono (c3 _) ?_; rintro e w1 ⟨rfl, hb1⟩; have hB := hB.trans (hb1.mono hB.size)))
  go_ret
  exact ⟨rfl, hB⟩

theorem nodes_main (i j : Nat) (w : World) (hL : Laid w) (hi : i < 256) (hj : j < 256) :
    Calls Tryd.prog 3 #[.int .i64 i, .int .i64 j] w fun e w' => e = .returned (.bool true) ∧ Below w.heap.size w w' := by
  by_cases he : i = j
  · subst he
    exact nodes_same i (shaS (nodeB i)) w (shaS_len _) hi (fun wx hb => of_any i wx (hL.below hb) hi) (fun wx => rof_any i wx hi)
  · exact nodes_other i j (shaS (nodeB i)) (shaS (nodeB j)) w (shaS_len _) (shaS_len _) hi hj he (fun h => he ((nodes_inj hi hj).1 h)) (fun wx hb => of_any i wx (hL.below hb) hi) (fun wx hb => of_any j wx (hL.below hb) hj) (fun wx => rof_any i wx hi)
end Go.Proofs.YtkmhnpkkkhglpaaDoor
