/- Laws on rows: a store into the middle of a row of bytes, an element of an array of arrays, rows of ints; bits. No condition. -/
import Derived.Test.YtoebnkepeledmaaDoorOtsA
namespace Go.Proofs.YtoebnkepeledmaaDoor
open Go Go.RowKit

theorem run_storeVar_row {P : Program} (w : World) (g off : Nat) (t ty : TypeId) (cur : Array Value) (cells : Array Value) (hg : Row w g t cur) (hfit : off + cells.size ≤ cur.size) (hi : (P.info? ty).map (·.size) = some cells.size) (h1 : cells.all (·.oneCell') = true) :
    (storeVar ty ⟨g, off, none⟩ (.agg cells)).run P w = .ok () (w.setRow g (cur.toList.take off ++ cells.toList ++ cur.toList.drop (off + cells.size)).toArray) := by
  have := run_storeCells_at (P := P) g off t cells.toList 0 cur w hg (by simpa using hfit) (fun v hv => (Array.all_eq_true_iff_forall_mem.1 h1) v (by simpa using hv))
  cases hq : P.info? ty with
  | none => simp [hq] at hi
  | some i =>
    have hs : cells.size = i.size := by simp [hq] at hi; omega
    simp only [Nat.add_zero, Array.length_toList] at this
    simp [storeVar, sizeOf, typeInfo, hq, Value.cells, hs, this]

/-- An array of bytes stored into the middle of a row. -/
theorem store_mid8 {P : Program} {ops : Array Oper} {rest : List Oper} {o : Oper} {a : Act} {w : World} {Q : Exit → Act → World → Prop} (ty : TypeId) (x y : Operand) (ho : o.op = .store ty x y) (hgd : o.guard = none) (hd : o.dst = none)
    (g off : Nat) (cs : List Int) (hx : a.eval x = .pointer (some ⟨g, off, none⟩)) (hy : a.eval y = .agg (v8 cs))
    (t : TypeId) (l : List Int) (hg : Row w g t (v8 l)) (hi : (P.info? ty).map (·.size) = some (v8 cs).size) (hfit : off + cs.length ≤ l.length)
    (h : wpList P ops Q rest a (w.setRow g (v8 (spl l off cs)))) : wpList P ops Q (o :: rest) a w := by
  refine wpList_plain hgd fun K hK => ?_
  have hr := run_storeVar_row (P := P) w g off t ty (v8 l) (v8 cs) hg (by rw [v8_size, v8_size]; exact hfit) hi (v8_one _)
  have e : ((v8 l).toList.take off ++ (v8 cs).toList ++ (v8 l).toList.drop (off + (v8 cs).size)).toArray = v8 (spl l off cs) := by
    simp [v8, spl, List.map_take, List.map_drop]
  rw [e] at hr
  unfold Oper.wp execOp
  simp only [ho, hx, hy, Instr.storeAt, Instr.sureAddr, Sem.run_bind, Sem.run_pure, Result.andThen_ok, hr]
  rw [← show a.put o.dst undef = a by rw [hd]; rfl] at h
  exact hK _ _ h

/-- 'a[i]' of an array of arrays of bytes, by value. -/
theorem run_index_sub {P : Program} {w : World} (t e : TypeId) (n m : Nat) (l cs : List Int) (k : IntKind) (i : Nat) (d : TypeDesc) (h : P.underlying t = some (.array n e)) (he : P.underlying e = some d) (hd : (match d with | .struct _ | .array _ _ => true | _ => false) = true) (hs : (P.info? e).map (·.size) = some m)
    (hi : i < n) (hcs : cs = (l.drop (m * i)).take m) : (Instr.index t (.agg (v8 l)) (.int k (i : Int))).run P w = .ok (.agg (v8 cs)) w := by
  cases hq : P.info? e with
  | none => simp [hq] at hs
  | some inf =>
    have h1 : inf.size = m := by simpa [hq] using hs
    have hc : (0 : Int) ≤ (i : Int) ∧ (i : Int) < (n : Int) := by omega
    have hx : (v8 l).extract (i * m) (i * m + m) = v8 cs := by
      subst hcs
      simp [v8, Nat.mul_comm, List.map_drop, List.map_take, List.extract_eq_take_drop]
    cases d <;> simp only [Bool.false_eq_true] at hd
    all_goals simp [Instr.index, run_underlying h, asIntOf, hc, go_sem, sizeOf, typeInfo, hq, h1, part, isAgg, run_underlying he, hx]
    all_goals intro hx2; omega

def v64 (l : List Int) : Array Value := (l.map (Value.int .i64)).toArray
theorem v64_size (l : List Int) : (v64 l).size = l.length := by simp [v64]
theorem v64_at {l : List Int} {j : Nat} (h : j < l.length) : (v64 l)[j]? = some (.int .i64 (gi l j)) := by simp [v64, gi, h]
theorem v64_set (l : List Int) (j : Nat) (x : Int) : (v64 l).setIfInBounds j (.int .i64 x) = v64 (l.set j x) := by simp [v64, List.map_set]
theorem v64_one (l : List Int) : (v64 l).all (·.oneCell') = true := by simp [v64]; intro a _; rfl
theorem Row.cell64 {w : World} {b j : Nat} {t : TypeId} {l : List Int} (h : Row w b t (v64 l)) (hj : j < l.length) : w.cell? ⟨b, j, none⟩ = some (.int .i64 (gi l j)) := h.cell.trans (v64_at hj)
theorem Row.set64 {w : World} {b : Nat} {t : TypeId} {l : List Int} (h : Row w b t (v64 l)) (j : Nat) (x : Int) : Row (w.setCell ⟨b, j, none⟩ (.int .i64 x)) b t (v64 (l.set j x)) := by
  have := heap_setCell_same w b j (v64 l) t (.int .i64 x) h
  rw [v64_set] at this; exact this

theorem and3 (x : Int) (h0 : 0 ≤ x) (h1 : x < 256) : bits .and .i64 x 3 = x % 4 := by
  have h : ∀ m : Fin 256, bits .and .i64 (m.val : Int) 3 = (m.val : Int) % 4 := by decide +kernel
  have := h ⟨x.toNat, by omega⟩
  simpa [Int.toNat_of_nonneg h0] using this
end Go.Proofs.YtoebnkepeledmaaDoor
