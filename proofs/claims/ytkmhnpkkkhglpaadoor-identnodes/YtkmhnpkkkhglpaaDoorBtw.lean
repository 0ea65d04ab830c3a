/- Between and Within of package ident: what they answer, in the numbers' words; they turn no old memory. -/
import Derived.Test.YtkmhnpkkkhglpaaDoorLess
namespace Go.Proofs.YtkmhnpkkkhglpaaDoor
open Go.RowKit

theorem eql23 {x y : List Int} (hx : Id32 x) (hy : Id32 y) (wx : World) : (binOp .eql 24 (.agg (v8 x)) (.agg (v8 y))).run Tryd.prog wx = .ok (.bool (decide (x = y))) wx :=
  run_eql_bytes wx 24 5 32 _ _ Tryd.underlying24 Tryd.underlying5 (by kernel_rfl) hx.1 hy.1
theorem neq23 {x y : List Int} (hx : Id32 x) (hy : Id32 y) (wx : World) : (binOp .neq 24 (.agg (v8 x)) (.agg (v8 y))).run Tryd.prog wx = .ok (.bool (!decide (x = y))) wx :=
  run_neq_bytes wx 24 5 32 _ _ Tryd.underlying24 Tryd.underlying5 (by kernel_rfl) hx.1 hy.1
theorem sz23 {x : List Int} (hx : Id32 x) : (Tryd.prog.info? 24).map (·.size) = some (v8 x).size := by rw [v8_size, hx.1]; kernel_rfl

/-- A whole row, loaded, where the guard lets the load by. -/
theorem load_rowW {P : Program} {ops : Array Oper} {rest : List Oper} {o : Oper} {a : Act} {w : World} {Q : Exit → Act → World → Prop} (hw : Region.wanted o (yielded ops a.tmps) = true) (ty : TypeId) (x : Operand) (ho : o.op = .load ty x)
    (g : Nat) (hx : a.eval x = .pointer (some ⟨g, 0, none⟩)) (t : TypeId) (cs : Array Value) (fr : Nat × Nat) (d : TypeDesc) (hg : w.heap[g]? = some (.cells cs t fr))
    (hu : P.underlying ty = some d) (hd : (match d with | .struct _ | .array _ _ => true | _ => false) = true) (hi : (P.info? ty).map (·.size) = some cs.size)
    (h : wpList P ops Q rest (a.put o.dst (.agg cs)) w) : wpList P ops Q (o :: rest) a w :=
  BigFrame.wpList_want hw fun _ hK => wp_load_row ty x ho g hx t cs fr d hg hu hd hi (hK _ _ h)

def btw (a x b : List Int) : Bool := if a = b then !decide (x = a) else if num a < num b then decide (num a < num x) && decide (num x < num b) else decide (num a < num x) || decide (num x < num b)
def win (a x b : List Int) : Bool := decide (x = b) || btw a x b

set_option maxRecDepth 20000 in
set_option maxHeartbeats 1000000 in
theorem between_any (a x b : List Int) (w : World) (ha : Id32 a) (hx : Id32 x) (hb : Id32 b) :
    Calls Tryd.prog 7 #[.agg (v8 a), .agg (v8 x), .agg (v8 b)] w fun e w' => e = .returned (.bool (btw a x b)) ∧ Below w.heap.size w w' := by
  have q1 := eql23 ha hb
  have q2 := neq23 hx ha
  have sa := sz23 ha
  have sx := sz23 hx
  have sb := sz23 hb
  have b0 : Below w.heap.size w (((w.alloc (.cells (v8 a) 24)).alloc (.cells (v8 x) 24)).alloc (.cells (v8 b) 24)) := (((Below.refl _ _).alloc (Nat.le_refl _) _).alloc (by simp) _).alloc (by simp; omega) _
  have ra : Row (((w.alloc (.cells (v8 a) 24)).alloc (.cells (v8 x) 24)).alloc (.cells (v8 b) 24)) w.heap.size 24 (v8 a) := ((Row.new w 24 (v8 a)).alloc _).alloc _
  have rx : Row (((w.alloc (.cells (v8 a) 24)).alloc (.cells (v8 x) 24)).alloc (.cells (v8 b) 24)) (w.heap.size + 1) 24 (v8 x) := (Row.newAt _ _ _ _ (by simp)).alloc _
  have rb : Row (((w.alloc (.cells (v8 a) 24)).alloc (.cells (v8 x) 24)).alloc (.cells (v8 b) 24)) (w.heap.size + 1 + 1) 24 (v8 b) := Row.newAt _ _ _ _ (by simp)
  have hB : Below (((w.alloc (.cells (v8 a) 24)).alloc (.cells (v8 x) 24)).alloc (.cells (v8 b) 24)).heap.size (((w.alloc (.cells (v8 a) 24)).alloc (.cells (v8 x) 24)).alloc (.cells (v8 b) 24)) (((w.alloc (.cells (v8 a) 24)).alloc (.cells (v8 x) 24)).alloc (.cells (v8 b) 24)) := Below.refl _ _
  unfold btw
  by_cases e1 : a = b
  · have d1 : decide (a = b) = true := by simpa using e1
    rw [d1] at q1
    rw [if_pos e1]
    clear d1 e1
    go_enter Tryd.func7, Tryd.ntmps7
    go_wp2_with (first | (refine load_rowW ?hw 24 (.tmp 3) (by rfl) w.heap.size (by rfl) 24 (v8 a) (0, 0) _ (ra.below hB ra.lt) Tryd.underlying24 rfl sa ?_; (case hw => rfl)) | (refine load_rowW ?hw 24 (.tmp 4) (by rfl) (w.heap.size + 1) (by rfl) 24 (v8 x) (0, 0) _ (rx.below hB rx.lt) Tryd.underlying24 rfl sx ?_; (case hw => rfl)) | (refine load_rowW ?hw 24 (.tmp 5) (by rfl) (w.heap.size + 1 + 1) (by rfl) 24 (v8 b) (0, 0) _ (rb.below hB rb.lt) Tryd.underlying24 rfl sb ?_; (case hw => rfl)))
    go_ret
    exact ⟨rfl, b0.trans (hB.mono b0.size)⟩
  · have d1 : decide (a = b) = false := by simpa using e1
    rw [d1] at q1
    rw [if_neg e1]
    clear d1 e1
    have l1 := fun wx => less_any a b wx ha hb
    have l2 := fun wx => less_any a x wx ha hx
    have l3 := fun wx => less_any x b wx hx hb
    by_cases e2 : num a < num b
    · have d2 : decide (num a < num b) = true := by simpa using e2
      rw [d2] at l1
      rw [if_pos e2]
      clear d2 e2
      generalize decide (num a < num x) = p1 at l2 ⊢
      generalize decide (num x < num b) = p2 at l3 ⊢
      cases p1 <;> cases p2
      all_goals
        go_enter Tryd.func7, Tryd.ntmps7
        go_wp2_with (first | (refine load_rowW ?hw 24 (.tmp 3) (by rfl) w.heap.size (by rfl) 24 (v8 a) (0, 0) _ (ra.below hB ra.lt) Tryd.underlying24 rfl sa ?_; (case hw => rfl)) | (refine load_rowW ?hw 24 (.tmp 4) (by rfl) (w.heap.size + 1) (by rfl) 24 (v8 x) (0, 0) _ (rx.below hB rx.lt) Tryd.underlying24 rfl sx ?_; (case hw => rfl)) | (refine load_rowW ?hw 24 (.tmp 5) (by rfl) (w.heap.size + 1 + 1) (by rfl) 24 (v8 b) (0, 0) _ (rb.below hB rb.lt) Tryd.underlying24 rfl sb ?_; (case hw => rfl)) | (go_at_call 11; with_reducible refine Calls.mono (l1 _) ?_; rintro e w1 ⟨rfl, hb1⟩; have hB := hB.trans (hb1.mono hB.size)) | (go_at_call 11; with_reducible refine Calls.mono (l2 _) ?_; rintro e w1 ⟨rfl, hb1⟩; have hB := hB.trans (hb1.mono hB.size)) | (go_at_call 11; with_reducible refine Calls.mono (l3 _) ?_; rintro e w1 ⟨rfl, hb1⟩; have hB := hB.trans (hb1.mono hB.size)))
        go_ret
        exact ⟨rfl, b0.trans (hB.mono b0.size)⟩
    · have d2 : decide (num a < num b) = false := by simpa using e2
      rw [d2] at l1
      rw [if_neg e2]
      clear d2 e2
      generalize decide (num a < num x) = p1 at l2 ⊢
      generalize decide (num x < num b) = p2 at l3 ⊢
      cases p1 <;> cases p2
      all_goals
        go_enter Tryd.func7, Tryd.ntmps7
        go_wp2_with (first | (refine load_rowW ?hw 24 (.tmp 3) (by rfl) w.heap.size (by rfl) 24 (v8 a) (0, 0) _ (ra.below hB ra.lt) Tryd.underlying24 rfl sa ?_; (case hw => rfl)) | (refine load_rowW ?hw 24 (.tmp 4) (by rfl) (w.heap.size + 1) (by rfl) 24 (v8 x) (0, 0) _ (rx.below hB rx.lt) Tryd.underlying24 rfl sx ?_; (case hw => rfl)) | (refine load_rowW ?hw 24 (.tmp 5) (by rfl) (w.heap.size + 1 + 1) (by rfl) 24 (v8 b) (0, 0) _ (rb.below hB rb.lt) Tryd.underlying24 rfl sb ?_; (case hw => rfl)) | (go_at_call 11; with_reducible refine Calls.mono (l1 _) ?_; rintro e w1 ⟨rfl, hb1⟩; have hB := hB.trans (hb1.mono hB.size)) | (go_at_call 11; with_reducible refine Calls.mono (l2 _) ?_; rintro e w1 ⟨rfl, hb1⟩; have hB := hB.trans (hb1.mono hB.size)) | (go_at_call 11; with_reducible refine Calls.mono (l3 _) ?_; rintro e w1 ⟨rfl, hb1⟩; have hB := hB.trans (hb1.mono hB.size)))
        go_ret
        exact ⟨rfl, b0.trans (hB.mono b0.size)⟩

set_option maxRecDepth 20000 in
set_option maxHeartbeats 1000000 in
theorem within_any (a x b : List Int) (w : World) (ha : Id32 a) (hx : Id32 x) (hb : Id32 b) :
    Calls Tryd.prog 8 #[.agg (v8 a), .agg (v8 x), .agg (v8 b)] w fun e w' => e = .returned (.bool (win a x b)) ∧ Below w.heap.size w w' := by
  have q1 := eql23 ha hb
  have q2 := neq23 hx ha
  have sa := sz23 ha
  have sx := sz23 hx
  have sb := sz23 hb
  have b0 : Below w.heap.size w (((w.alloc (.cells (v8 a) 24)).alloc (.cells (v8 x) 24)).alloc (.cells (v8 b) 24)) := (((Below.refl _ _).alloc (Nat.le_refl _) _).alloc (by simp) _).alloc (by simp; omega) _
  have ra : Row (((w.alloc (.cells (v8 a) 24)).alloc (.cells (v8 x) 24)).alloc (.cells (v8 b) 24)) w.heap.size 24 (v8 a) := ((Row.new w 24 (v8 a)).alloc _).alloc _
  have rx : Row (((w.alloc (.cells (v8 a) 24)).alloc (.cells (v8 x) 24)).alloc (.cells (v8 b) 24)) (w.heap.size + 1) 24 (v8 x) := (Row.newAt _ _ _ _ (by simp)).alloc _
  have rb : Row (((w.alloc (.cells (v8 a) 24)).alloc (.cells (v8 x) 24)).alloc (.cells (v8 b) 24)) (w.heap.size + 1 + 1) 24 (v8 b) := Row.newAt _ _ _ _ (by simp)
  have hB : Below (((w.alloc (.cells (v8 a) 24)).alloc (.cells (v8 x) 24)).alloc (.cells (v8 b) 24)).heap.size (((w.alloc (.cells (v8 a) 24)).alloc (.cells (v8 x) 24)).alloc (.cells (v8 b) 24)) (((w.alloc (.cells (v8 a) 24)).alloc (.cells (v8 x) 24)).alloc (.cells (v8 b) 24)) := Below.refl _ _
  clear q1 q2
  have q1 := eql23 hx hb
  have l1 := fun wx => between_any a x b wx ha hx hb
  unfold win
  generalize decide (x = b) = p1 at q1 ⊢
  generalize btw a x b = p2 at l1 ⊢
  cases p1 <;> cases p2
  all_goals
    go_enter Tryd.func8, Tryd.ntmps8
    go_wp2_with (first | (refine load_rowW ?hw 24 (.tmp 3) (by rfl) w.heap.size (by rfl) 24 (v8 a) (0, 0) _ (ra.below hB ra.lt) Tryd.underlying24 rfl sa ?_; (case hw => rfl)) | (refine load_rowW ?hw 24 (.tmp 4) (by rfl) (w.heap.size + 1) (by rfl) 24 (v8 x) (0, 0) _ (rx.below hB rx.lt) Tryd.underlying24 rfl sx ?_; (case hw => rfl)) | (refine load_rowW ?hw 24 (.tmp 5) (by rfl) (w.heap.size + 1 + 1) (by rfl) 24 (v8 b) (0, 0) _ (rb.below hB rb.lt) Tryd.underlying24 rfl sb ?_; (case hw => rfl)) | (go_at_call 7; with_reducible refine Calls.mono (l1 _) ?_; rintro e w1 ⟨rfl, hb1⟩; have hB := hB.trans (hb1.mono hB.size)))
    go_ret
    exact ⟨rfl, b0.trans (hB.mono b0.size)⟩
end Go.Proofs.YtkmhnpkkkhglpaaDoor
