/- A slice of ids, written out: where its ids lie in the new block. An id loaded out of the middle of a block in a region that draws its order. No condition. -/
import Derived.Test.YtkmhnpkkkhglpaaKnown
import Derived.Great.BuildSlice
namespace Go.Proofs.Ytkmhnpkkkhglpaa
open Go.RowKit

theorem foldl_set (off : Nat) : ∀ (l : List Value) (k : Nat) (cs : Array Value), off + k + l.length ≤ cs.size →
    ∃ r, (l.zipIdx k).foldl (fun (cs : Array Value) (x : Value × Nat) => cs.setIfInBounds (off + x.2) x.1) cs = r ∧ r.size = cs.size ∧ (∀ j v, l[j]? = some v → r[off + k + j]? = some v) ∧
      (∀ t, (t < off + k ∨ off + k + l.length ≤ t) → r[t]? = cs[t]?)
  | [], k, cs, _ => ⟨cs, rfl, rfl, fun j v h => by simp at h, fun t _ => rfl⟩
  | x :: l, k, cs, h => by
    simp only [List.length_cons] at h
    obtain ⟨r, h1, h2, h3, h4⟩ := foldl_set off l (k + 1) (cs.setIfInBounds (off + k) x) (by simp; omega)
    refine ⟨r, by simpa [List.zipIdx_cons] using h1, by simpa using h2, fun j v hj => ?_, fun t ht => ?_⟩
    · cases j with
      | zero =>
        have hx : x = v := by simpa using hj
        have hlt : off + k < cs.size := by omega
        rw [h4 (off + k + 0) (by omega), Nat.add_zero, Array.getElem?_setIfInBounds, if_pos rfl, if_pos hlt, hx]
      | succ j =>
        have := h3 j v (by simpa using hj)
        rw [show off + k + (j + 1) = off + (k + 1) + j by omega]; exact this
    · simp only [List.length_cons] at ht
      rw [h4 t (by omega)]
      rw [Array.getElem?_setIfInBounds_ne (by omega)]

theorem fill_rows : ∀ (ls : List (List Int)) (k : Nat) (cs : Array Value), (∀ l ∈ ls, l.length = 32) → (k + ls.length) * 32 ≤ cs.size →
    ∃ r, Instr.fill (fun i => some (i * 32, 32)) cs ((ls.zipIdx k).map fun x => (x.2, Value.agg (v8 x.1))) = some r ∧ r.size = cs.size ∧
      (∀ i l, ls[i]? = some l → ∀ j, j < 32 → r[(k + i) * 32 + j]? = some (.int .u8 (gi l j))) ∧ (∀ t, t < k * 32 → r[t]? = cs[t]?)
  | [], k, cs, _, _ => ⟨cs, rfl, rfl, fun i l h => by simp at h, fun t _ => rfl⟩
  | l :: ls, k, cs, hl, h => by
    simp only [List.length_cons] at h
    have h32 : l.length = 32 := hl l (List.mem_cons_self ..)
    obtain ⟨r1, a1, a2, a3, a4⟩ := foldl_set (k * 32) (l.map (Value.int .u8)) 0 cs (by simp [h32]; omega)
    obtain ⟨r, b1, b2, b3, b4⟩ := fill_rows ls (k + 1) r1 (fun x hx => hl x (List.mem_cons_of_mem _ hx)) (by rw [a2]; omega)
    refine ⟨r, ?_, by rw [b2, a2], fun i m hi j hj => ?_, fun t ht => ?_⟩
    · rw [List.zipIdx_cons, List.map_cons, Instr.fill]
      have hs : (Value.agg (v8 l)).cells.size = 32 := by show (v8 l).size = 32; rw [v8_size, h32]
      have hc : ¬ ((Value.agg (v8 l)).cells.size ≠ 32 || decide (k * 32 + (Value.agg (v8 l)).cells.size > cs.size)) = true := by
        rw [hs]; simp; omega
      simp only [hs] at hc ⊢
      rw [if_neg hc]
      have e : (Value.agg (v8 l)).cells.zipIdx.foldl (fun cs (x : Value × Nat) => cs.setIfInBounds (k * 32 + x.2) x.1) cs = r1 := by
        show (v8 l).zipIdx.foldl _ cs = r1
        rw [← Array.foldl_toList, ← a1]; simp [v8]
      have e' : (Value.agg (v8 l)).cells.zipIdx.foldl (fun cs x => match x with | (c, j) => cs.setIfInBounds (k * 32 + j) c) cs = r1 := e
      rw [e']; exact b1
    · cases i with
      | zero =>
        have hm : l = m := by simpa using hi
        subst hm
        rw [b4 _ (by omega)]
        have := a3 j (.int .u8 (gi l j)) (by simp [gi, h32, hj])
        simpa using this
      | succ i =>
        have := b3 i m (by simpa using hi) j hj
        rw [show (k + (i + 1)) * 32 + j = (k + 1 + i) * 32 + j by omega]; exact this
    · rw [b4 t (by omega), a4 t (by omega)]

theorem info23 : ∃ ie z, Try.prog.info? 23 = some ie ∧ ie.zero = some z ∧ ie.size = 32 := ⟨_, _, rfl, rfl, rfl⟩

/-- '[]api.Id' of five ids: the slice, and where the ids lie. -/
theorem build5 {ops : Array Oper} {rest : List Oper} {o : Oper} {a : Act} {w : World} {Q : Exit → Act → World → Prop} (x0 x1 x2 x3 x4 : Operand) (ho : o.op = .buildSlice 26 5 #[(0, x0), (1, x1), (2, x2), (3, x3), (4, x4)]) (hg : o.guard = none)
    (l0 l1 l2 l3 l4 : List Int) (e0 : a.eval x0 = .agg (v8 l0)) (e1 : a.eval x1 = .agg (v8 l1)) (e2 : a.eval x2 = .agg (v8 l2)) (e3 : a.eval x3 = .agg (v8 l3)) (e4 : a.eval x4 = .agg (v8 l4))
    (i0 : Id32 l0) (i1 : Id32 l1) (i2 : Id32 l2) (i3 : Id32 l3) (i4 : Id32 l4)
    (h : ∀ w', Below w.heap.size w w' → (∀ i l, [l0, l1, l2, l3, l4][i]? = some l → ∀ j, j < 32 → w'.cell? ⟨w.heap.size, i * 32 + j, none⟩ = some (.int .u8 (gi l j))) →
      wpList Try.prog ops Q rest (a.put o.dst (.slice (some ⟨w.heap.size, 0, none⟩) 5 5)) w') : wpList Try.prog ops Q (o :: rest) a w := by
  obtain ⟨ie, z, h1, h2, h3⟩ := info23
  obtain ⟨r, c1, c2, c3, _⟩ := fill_rows [l0, l1, l2, l3, l4] 0 ((Array.range (5 * ie.size)).map (z.cells[· % z.cells.size]!)) (fun l hl => by
    simp only [List.mem_cons, List.not_mem_nil, or_false] at hl
    rcases hl with rfl | rfl | rfl | rfl | rfl
    · exact i0.1
    · exact i1.1
    · exact i2.1
    · exact i3.1
    · exact i4.1) (by simp [h3])
  refine wpList_buildSlice hg 26 23 5 _ ho r ie z Try.underlying26 h1 h2 (by rw [h3]; decide) (by rw [h3]; decide) ?_ (h _ ((Below.refl _ _).alloc (Nat.le_refl _) _) (fun i l hi j hj => ?_))
  · rw [h3] at c1 ⊢
    simpa [e0, e1, e2, e3, e4] using c1
  · have hr := Row.new w 23 r
    rw [hr.cell]
    have := c3 i l hi j hj
    simpa using this

theorem q_load_midW {ops : Array Oper} {ι : Type} {W : ι → World} {Q : Act → Prop} {rest : List Oper} {o : Oper} {a : Act} (x : Operand) (ho : o.op = .load 23 x) (hgd : Region.wanted o (yielded ops a.tmps) = true)
    (b off : Nat) (hx : a.eval x = .pointer (some ⟨b, off, none⟩)) (l : List Int) (hl : Id32 l) (hc : ∀ i j, j < 32 → (W i).cell? ⟨b, off + j, none⟩ = some (.int .u8 (gi l j)))
    (h : wpQuiet Try.prog ops (fun w' => ∃ i, w' = W i) Q rest (a.put o.dst (.agg (v8 l)))) : wpQuiet Try.prog ops (fun w' => ∃ i, w' = W i) Q (o :: rest) a := by
  unfold wpQuiet
  rw [if_pos hgd]
  refine ⟨.agg (v8 l), fun w hw => ?_, h⟩
  obtain ⟨i, rfl⟩ := hw
  have hm := run_loadVar_mid (P := Try.prog) (W i) b off 23 (l.map (Value.int .u8)) _ (fun j v hv => by
    have hj : j < l.length := by have := (List.getElem?_eq_some_iff.1 hv).1; simpa using this
    rw [hc i j (by rw [hl.1] at hj; exact hj), ← hv]; simp [gi, hj]) Try.underlying23 rfl (by rw [List.length_map, hl.1]; kernel_rfl)
  unfold Oper.quietAt execOp
  simp only [ho, hx, Instr.loadAt, Instr.sureAddr, Sem.run_bind, Sem.run_pure, Result.andThen_ok, hm]
  exact ⟨rfl, rfl⟩
end Go.Proofs.Ytkmhnpkkkhglpaa
