/- '==' on arrays of bytes by value: it says whether the lists are one. No condition. -/
import Derived.Test.YtcdmjjlbeifgjaaMem
import Derived.Laws.StructEq
namespace Go.Proofs.Ytcdmjjlbeifgjaa
open Go Go.RowKit

theorem run_eq_array {P : Program} (w : World) (d : Nat) (t e : TypeId) (n : Nat) (x y : List Int) (ht : P.underlying t = some (.array n e)) (he : P.underlying e = some (.int .u8)) (hs : (P.info? e).map (·.size) = some 1)
    (hx : x.length = n) (hy : y.length = n) : (Op.equalIn (d + 2) t (.agg (v8 x)) (.agg (v8 y))).run P w = .ok (decide (x = y)) w := by
  obtain ⟨inf, hinf, h1⟩ : ∃ inf, P.info? e = some inf ∧ inf.size = 1 := by
    cases hq : P.info? e with
    | none => simp [hq] at hs
    | some i => exact ⟨i, rfl, by simpa [hq] using hs⟩
  unfold Op.equalIn
  simp only [Sem.run_bind, run_underlying ht, Result.andThen_ok, sizeOf, typeInfo, run_program, hinf, Sem.run_pure, h1, Nat.mul_one]
  rw [Std.Legacy.Range.forIn_eq_forIn_range']
  simp only [Std.Legacy.Range.size, Nat.sub_zero, Nat.add_one_sub_one, Nat.div_one]
  have hpart : ∀ (l : List Int) (i : Nat) (w : World), i < l.length → (part e (v8 l) i).run P w = .ok (.int .u8 (gi l i)) w := fun l i w hi => by
    simp [part, isAgg, run_underlying he, v8_at hi, Sem.run_bind]
  have key : ∀ m k, k + m = n → (∀ j, j < k → gi x j = gi y j) → ((Sem.run P
          (forIn (List.range' k m 1) ((none : Option Bool), ()) fun i __s => do
            let __do_lift ← part e (v8 x) i
            let __do_lift_1 ← part e (v8 y) i
            let __do_lift ← Op.equalIn (d + 1) e __do_lift __do_lift_1
            if (!__do_lift) = true then pure (ForInStep.done (some false, ())) else pure (ForInStep.yield (none, ())))
          w).andThen
      fun a w' =>
      Sem.run P
        (match a.fst with
        | some r => pure r
        | none => pure true)
        w') = Result.ok (decide (x = y)) w := by
    intro m
    induction m with
    | zero =>
      intro k hk hj
      have e1 : x = y := by
        apply List.ext_getElem (by omega)
        intro j h1 h2
        have := hj j (by omega)
        simpa [gi, h1, h2] using this
      simp [e1]
    | succ m ih =>
      intro k hk hj
      rw [List.range'_succ, List.forIn_cons]
      simp only [Sem.run_bind, hpart x k w (by omega), hpart y k w (by omega), Result.andThen_ok, run_equalIn_int w d e .u8 .u8 _ _ he]
      by_cases h : gi x k = gi y k
      · simp only [h, BEq.rfl, Bool.not_true, Bool.false_eq_true, if_false, Sem.run_pure, Result.andThen_ok]
        exact ih (k + 1) (by omega) (fun j hj' => by
          by_cases e2 : j = k
          · subst e2; exact h
          · exact hj j (by omega))
      · have h' : (gi x k == gi y k) = false := by simpa using h
        have hne : x ≠ y := fun e2 => h (by rw [e2])
        simp [h', hne]
  refine Eq.trans (congrArg (Result.andThen _) ?_) (key n 0 (by omega) (fun j hj => by omega))
  funext a w'
  obtain ⟨o, u⟩ := a
  cases o <;> rfl

theorem run_eql_bytes {P : Program} (w : World) (t e : TypeId) (n : Nat) (x y : List Int) (ht : P.underlying t = some (.array n e)) (he : P.underlying e = some (.int .u8)) (hs : (P.info? e).map (·.size) = some 1)
    (hx : x.length = n) (hy : y.length = n) : (binOp .eql t (.agg (v8 x)) (.agg (v8 y))).run P w = .ok (.bool (decide (x = y))) w := by
  rw [run_eql_struct, run_eq_array w 9998 t e n x y ht he hs hx hy]; rfl
theorem run_neq_bytes {P : Program} (w : World) (t e : TypeId) (n : Nat) (x y : List Int) (ht : P.underlying t = some (.array n e)) (he : P.underlying e = some (.int .u8)) (hs : (P.info? e).map (·.size) = some 1)
    (hx : x.length = n) (hy : y.length = n) : (binOp .neq t (.agg (v8 x)) (.agg (v8 y))).run P w = .ok (.bool (!decide (x = y))) w := by
  rw [run_neq_struct, run_eq_array w 9998 t e n x y ht he hs hx hy]; rfl
end Go.Proofs.Ytcdmjjlbeifgjaa
