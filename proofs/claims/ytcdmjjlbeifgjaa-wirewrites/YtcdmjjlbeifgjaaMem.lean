/- A block of memory that is known whole, and what stores, new blocks and draws do to it: small facts for the walks. No condition. -/
import Derived.WalkKit
import Derived.Laws.Rows
import Derived.Laws.Tables
import Derived.Deep.MidRow
import Derived.Deep.Draws
import Derived.Laws.CopyOwn
namespace Go.Proofs.Ytcdmjjlbeifgjaa
open Go Go.RowKit

def gi (l : List Int) (j : Nat) : Int := l.getD j 0
def v8 (l : List Int) : Array Value := (l.map (Value.int .u8)).toArray
def v32 (l : List Int) : Array Value := (l.map (Value.int .u32)).toArray
def Row (w : World) (b : Nat) (t : TypeId) (vs : Array Value) : Prop := w.heap[b]? = some (.cells vs t (0, 0))

theorem v32_size (l : List Int) : (v32 l).size = l.length := by simp [v32]
theorem v8_size (l : List Int) : (v8 l).size = l.length := by simp [v8]
theorem v32_at {l : List Int} {j : Nat} (h : j < l.length) : (v32 l)[j]? = some (.int .u32 (gi l j)) := by simp [v32, gi, h]
theorem v8_at {l : List Int} {j : Nat} (h : j < l.length) : (v8 l)[j]? = some (.int .u8 (gi l j)) := by simp [v8, gi, h]
theorem v32_set (l : List Int) (j : Nat) (x : Int) : (v32 l).setIfInBounds j (.int .u32 x) = v32 (l.set j x) := by simp [v32, List.map_set]
theorem v8_set (l : List Int) (j : Nat) (x : Int) : (v8 l).setIfInBounds j (.int .u8 x) = v8 (l.set j x) := by simp [v8, List.map_set]
theorem v32_one (l : List Int) : (v32 l).all (·.oneCell') = true := by simp [v32]; intro a _; rfl
theorem v8_one (l : List Int) : (v8 l).all (·.oneCell') = true := by simp [v8]; intro a _; rfl

theorem Row.cell {w : World} {b j : Nat} {t : TypeId} {vs : Array Value} (h : Row w b t vs) : w.cell? ⟨b, j, none⟩ = vs[j]? := cell_of_row w b j vs t (0, 0) h
theorem Row.cell32 {w : World} {b j : Nat} {t : TypeId} {l : List Int} (h : Row w b t (v32 l)) (hj : j < l.length) : w.cell? ⟨b, j, none⟩ = some (.int .u32 (gi l j)) := h.cell.trans (v32_at hj)
theorem Row.cell8 {w : World} {b j : Nat} {t : TypeId} {l : List Int} (h : Row w b t (v8 l)) (hj : j < l.length) : w.cell? ⟨b, j, none⟩ = some (.int .u8 (gi l j)) := h.cell.trans (v8_at hj)
theorem Row.frozen {w : World} {b j : Nat} {t : TypeId} {vs : Array Value} (h : Row w b t vs) : w.frozen? ⟨b, j, none⟩ = false := frozen_of_row w b j vs t h
theorem Row.lt {w : World} {b : Nat} {t : TypeId} {vs : Array Value} (h : Row w b t vs) : b < w.heap.size := by
  unfold Row at h
  by_cases hb : b < w.heap.size
  · exact hb
  · rw [Array.getElem?_eq_none (by omega)] at h; cases h
theorem Row.drew {w : World} {b : Nat} {t : TypeId} {vs : Array Value} (h : Row w b t vs) : Row w.drew b t vs := h
theorem Row.drewN {w : World} {b : Nat} {t : TypeId} {vs : Array Value} (h : Row w b t vs) (n : Nat) : Row (w.drewN n) b t vs := h
theorem Row.set32 {w : World} {b : Nat} {t : TypeId} {l : List Int} (h : Row w b t (v32 l)) (j : Nat) (x : Int) : Row (w.setCell ⟨b, j, none⟩ (.int .u32 x)) b t (v32 (l.set j x)) := by
  have := heap_setCell_same w b j (v32 l) t (.int .u32 x) h
  rw [v32_set] at this; exact this
theorem Row.set8 {w : World} {b : Nat} {t : TypeId} {l : List Int} (h : Row w b t (v8 l)) (j : Nat) (x : Int) : Row (w.setCell ⟨b, j, none⟩ (.int .u8 x)) b t (v8 (l.set j x)) := by
  have := heap_setCell_same w b j (v8 l) t (.int .u8 x) h
  rw [v8_set] at this; exact this
theorem Row.setOther {w : World} {b : Nat} {t : TypeId} {vs : Array Value} (h : Row w b t vs) {a : Addr} (ha : b ≠ a.block) (v : Value) : Row (w.setCell a v) b t vs := by
  unfold Row; rw [heap_setCell_other w a b v ha]; exact h
theorem Row.alloc {w : World} {b : Nat} {t : TypeId} {vs : Array Value} (h : Row w b t vs) (o : Obj) : Row (w.alloc o) b t vs := by
  unfold Row; rw [Below.heap_alloc w o b h.lt]; exact h
theorem Row.new (w : World) (t : TypeId) (vs : Array Value) : Row (w.alloc (.cells vs t)) w.heap.size t vs := by unfold Row; show (w.heap.push _)[w.heap.size]? = _; simp
theorem Row.newAt (w : World) (t : TypeId) (vs : Array Value) (b : Nat) (hb : b = w.heap.size) : Row (w.alloc (.cells vs t)) b t vs := by subst hb; exact Row.new w t vs
theorem Row.below {w w' : World} {B b : Nat} {t : TypeId} {vs : Array Value} (h : Row w b t vs) (hb : Below B w w') (hlt : b < B) : Row w' b t vs := by
  unfold Row; rw [hb.block b hlt]; exact h
theorem Row.setRow {w : World} {b : Nat} {t : TypeId} {vs : Array Value} (h : Row w b t vs) (cs : Array Value) : Row (w.setRow b cs) b t cs := setRow_heap w b vs cs t _ h
theorem Row.setRowOther {w : World} {b g : Nat} {t : TypeId} {vs : Array Value} (h : Row w b t vs) (hg : b ≠ g) (cs : Array Value) : Row (w.setRow g cs) b t vs := by
  unfold Row; rw [setRow_other w g b cs hg]; exact h
theorem below_drewN {w w' : World} {B : Nat} (h : Below B w w') (n : Nat) : Below B w (w'.drewN n) := ⟨h.os, h.tape, h.output, h.size, h.block⟩
/-- A block that is known whole, whatever its mark: for what is only read. -/
def GRow (w : World) (b : Nat) (vs : Array Value) : Prop := ∃ t fr, w.heap[b]? = some (.cells vs t fr)
theorem GRow.cell {w : World} {b j : Nat} {vs : Array Value} (h : GRow w b vs) : w.cell? ⟨b, j, none⟩ = vs[j]? := let ⟨t, fr, h⟩ := h; cell_of_row w b j vs t fr h
theorem GRow.cell32 {w : World} {b j : Nat} {l : List Int} (h : GRow w b (v32 l)) (hj : j < l.length) : w.cell? ⟨b, j, none⟩ = some (.int .u32 (gi l j)) := h.cell.trans (v32_at hj)
theorem GRow.lt {w : World} {b : Nat} {vs : Array Value} (h : GRow w b vs) : b < w.heap.size := by
  obtain ⟨t, fr, h⟩ := h
  by_cases hb : b < w.heap.size
  · exact hb
  · rw [Array.getElem?_eq_none (by omega)] at h; cases h
theorem GRow.drewN {w : World} {b : Nat} {vs : Array Value} (h : GRow w b vs) (n : Nat) : GRow (w.drewN n) b vs := h
theorem GRow.alloc {w : World} {b : Nat} {vs : Array Value} (h : GRow w b vs) (o : Obj) : GRow (w.alloc o) b vs := by
  have hl := h.lt
  obtain ⟨t, fr, h⟩ := h
  exact ⟨t, fr, by rw [Below.heap_alloc w o b hl]; exact h⟩
theorem GRow.setRowOther {w : World} {b g : Nat} {vs : Array Value} (h : GRow w b vs) (hg : b ≠ g) (cs : Array Value) : GRow (w.setRow g cs) b vs := by
  obtain ⟨t, fr, h⟩ := h
  exact ⟨t, fr, by rw [setRow_other w g b cs hg]; exact h⟩
theorem GRow.below {w w' : World} {B b : Nat} {vs : Array Value} (h : GRow w b vs) (hb : Below B w w') (hlt : b < B) : GRow w' b vs := by
  obtain ⟨t, fr, h⟩ := h
  exact ⟨t, fr, by rw [hb.block b hlt]; exact h⟩

/-- A whole row stored: the frame stays as it was. -/
theorem store_row0 {P : Program} {ops : Array Oper} {rest : List Oper} {o : Oper} {a : Act} {w : World} {Q : Exit → Act → World → Prop} (ty : TypeId) (x y : Operand) (ho : o.op = .store ty x y) (hgd : o.guard = none) (hd : o.dst = none)
    (g : Nat) (cells : Array Value) (hx : a.eval x = .pointer (some ⟨g, 0, none⟩)) (hy : a.eval y = .agg cells)
    (t : TypeId) (old : Array Value) (hg : Row w g t old) (hi : (P.info? ty).map (·.size) = some cells.size)
    (hold : old.size = cells.size) (h1 : cells.all (·.oneCell') = true)
    (h : wpList P ops Q rest a (w.setRow g cells)) : wpList P ops Q (o :: rest) a w :=
  wpList_store_row hgd ty x y ho g cells hx hy t old hg hi hold h1 (by rw [hd]; exact h)

/-- 'a[i]' of an array of integers, by value. -/
theorem run_index_row {P : Program} {w : World} (t e : TypeId) (n : Nat) (q : IntKind) (cs : Array Value) (k : IntKind) (i : Nat) (v : Value) (h : P.underlying t = some (.array n e)) (he : P.underlying e = some (.int q)) (hs : (P.info? e).map (·.size) = some 1)
    (hi : i < n) (hv : cs[i]? = some v) : (Instr.index t (.agg cs) (.int k (i : Int))).run P w = .ok v w := by
  cases hq : P.info? e with
  | none => simp [hq] at hs
  | some inf =>
    have h1 : inf.size = 1 := by simpa [hq] using hs
    have hc : (0 : Int) ≤ (i : Int) ∧ (i : Int) < (n : Int) := by omega
    simp [Instr.index, run_underlying h, asIntOf, hc, go_sem, sizeOf, typeInfo, hq, h1, part, isAgg, run_underlying he, hv]
    intro hx; omega

/-- The bytes cs lie at the slice's address (where there is one at all). -/
def Bytes (w : World) (sp : Option Addr) (cs : List Int) : Prop :=
  0 < cs.length → ∃ b o, sp = some ⟨b, o, none⟩ ∧ ∀ j, j < cs.length → w.cell? ⟨b, o + j, none⟩ = some (.int .u8 (gi cs j))
theorem Bytes.below {w w' : World} {sp : Option Addr} {cs : List Int} (h : Bytes w sp cs) (hb : Below w.heap.size w w') : Bytes w' sp cs := fun hp => by
  obtain ⟨b, o, rfl, hc⟩ := h hp
  refine ⟨b, o, rfl, fun j hj => ?_⟩
  have h1 := hc j hj
  have h2 := block_lt_of_cell h1
  rw [hb.cell (p := ⟨b, o + j, none⟩) h2]; exact h1
theorem Bytes.take {w : World} {sp : Option Addr} {cs : List Int} (h : Bytes w sp cs) (n : Nat) : Bytes w sp (cs.take n) := fun hp => by
  simp only [List.length_take] at hp
  obtain ⟨b, o, rfl, hc⟩ := h (by omega)
  refine ⟨b, o, rfl, fun j hj => ?_⟩
  simp only [List.length_take] at hj
  rw [hc j (by omega)]
  simp [gi, show j < n by omega]
theorem Bytes.drop {w : World} {b o : Nat} {cs : List Int} (h : Bytes w (some ⟨b, o, none⟩) cs) (n : Nat) : Bytes w (some ⟨b, o + n, none⟩) (cs.drop n) := fun hp => by
  simp only [List.length_drop] at hp
  obtain ⟨b', o', e, hc⟩ := h (by omega)
  cases e
  refine ⟨b, o + n, rfl, fun j hj => ?_⟩
  simp only [List.length_drop] at hj
  rw [Nat.add_assoc, hc (n + j) (by omega)]
  simp [gi]
theorem Bytes.nil (w : World) (sp : Option Addr) : Bytes w sp [] := fun h => by simp at h
def spl (l : List Int) (off : Nat) (cs : List Int) : List Int := l.take off ++ (cs ++ l.drop (off + cs.length))
theorem spl_length (l : List Int) (off : Nat) (cs : List Int) (h : off + cs.length ≤ l.length) : (spl l off cs).length = l.length := by simp [spl]; omega

/-- 'copy' of bytes into a row that is known whole. -/
theorem copy8 {P : Program} {w : World} {ops : Array Oper} {rest : List Oper} {o : Oper} {a : Act} {Q : Exit → Act → World → Prop} (d s : Operand) (dT sT : TypeId)
    (ho : o.op = .call { callee := .builtin .copy, args := #[d, s], argTypes := #[dT, sT] }) (hgd : o.guard = none) (elem : TypeId) (hu : P.underlying dT = some (.slice elem)) (hsz : (P.info? elem).map (·.size) = some 1)
    (dp sp : Option Addr) (dLen dCap sLen sCap : Nat) (hd : a.eval d = .slice dp dLen dCap) (hs : a.eval s = .slice sp sLen sCap)
    (g off : Nat) (l : List Int) (t : TypeId) (hg : Row w g t (v8 l)) (cs : List Int) (hn : cs.length = min sLen dLen)
    (hdp : 0 < cs.length → dp = some ⟨g, off, none⟩) (hsp : Bytes w sp cs) (hfit : off + cs.length ≤ l.length)
    (h : wpList P ops Q rest (a.put o.dst (.int .i64 cs.length)) (w.setRow g (v8 (spl l off cs)))) : wpList P ops Q (o :: rest) a w := by
  by_cases h0 : cs.length = 0
  · obtain rfl : cs = [] := List.eq_nil_of_length_eq_zero h0
    refine wpList_copy_nothing hgd d s dT sT ho elem hu hsz dp sp dLen dCap sLen sCap hd hs (by simpa using hn.symm) ?_
    have e : w.setRow g (v8 (spl l off [])) = w := by
      rw [show spl l off [] = l by simp [spl]]; exact setRow_self w g _ t _ hg
    rw [e] at h; exact h
  · obtain ⟨b, ob, rfl, hsrc⟩ := hsp (by omega)
    have hd0 := hdp (by omega)
    subst hd0
    refine wpList_copy_own hgd d s dT sT ho elem hu hsz g off dLen dCap ⟨b, ob, none⟩ sLen sCap hd hs (v8 l) t hg (cs.map (Value.int .u8)) (by simpa using hn) (fun j v hv => ?_) (by rw [v8_size]; simpa using hfit) (fun v hv => ?_) ?_
    · rw [Addr.add_mid]
      have hj : j < cs.length := by
        have := (List.getElem?_eq_some_iff.1 hv).1; simpa using this
      rw [hsrc j hj, ← hv]; simp [gi, hj]
    · obtain ⟨x, _, rfl⟩ := List.mem_map.1 hv; rfl
    · have e : ((v8 l).toList.take off ++ (cs.map (Value.int .u8) ++ (v8 l).toList.drop (off + (cs.map (Value.int .u8)).length))).toArray = v8 (spl l off cs) := by
        simp [v8, spl, List.map_take, List.map_drop]
      rw [e]; simpa [goInt] using h

end Go.Proofs.Ytcdmjjlbeifgjaa
