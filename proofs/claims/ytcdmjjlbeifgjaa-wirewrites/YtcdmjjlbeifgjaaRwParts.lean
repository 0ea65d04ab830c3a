/- The reference's writer: what each of its calls leaves behind, said by the document's parts; a new writer. -/
import Derived.Test.YtcdmjjlbeifgjaaRwMath
namespace Go.Proofs.Ytcdmjjlbeifgjaa
open Go.RowKit

theorem RW.cast {w : World} {B g : Nat} {E E' : Int} {bs cs : List Int} (h : RW w B g E bs) (e1 : E = E') (e2 : bs = cs) : RW w B g E' cs := by subst e1 e2; exact h
theorem RW.new (w : World) (k : Int) : RW ((w.alloc (.cells #[.int .u8 k] 5)).alloc (.cells #[.slice (some ⟨w.heap.size, 0, none⟩) 1 1, .int .i64 0] 55)) w.heap.size (w.heap.size + 1) 0 [k] := by
  refine ⟨by omega, some ⟨w.heap.size, 0, none⟩, 1, Row.newAt _ 55 _ _ (by simp), Own8.alloc ?_ _⟩
  exact World.ownsRow_lit (base := w.heap.size) (e := 5) (size := 1) w #[.int .u8 k] 1 (Nat.le_refl _) (by unfold maxLen; omega) rfl
theorem e_pred (m : M) (w0 w : World) (g : Nat) (E : Int) (bs : List Int) (hb : Below w0.heap.size w0 w) (hW : RW w w0.heap.size g E bs) (hl : bs.length ≤ 10000000) :
    Calls Try.prog 21 #[.pointer (some ⟨g, 0, none⟩), .int .i64 m.pred, .int .i64 (-1)] w fun e w' => e = .returned (.tuple #[]) ∧ Below w0.heap.size w0 w' ∧ RW w' w0.heap.size g (fst2 E (partE 0 m)) (bs ++ rB 0 m) := by
  refine (rnode_any m.pred (-1) w w0.heap.size g E bs hW (by omega) hb.size).mono ?_
  rintro e w' ⟨rfl, h1, h2⟩
  refine ⟨rfl, hb.trans h1, h2.cast ?_ rfl⟩
  rw [firstE_fst2]
  congr 1
  show _ = (if m.pred = -1 then 0 else numE 0 m.pred 1)
  rw [show numE 0 m.pred 1 = if m.pred < 0 ∨ 9 < m.pred then 1 else 0 from rfl]
  simp only [Bool.or_eq_true, decide_eq_true_eq]
  repeat' split
  all_goals first | rfl | omega
theorem e_node (m : M) (w0 w : World) (g : Nat) (E : Int) (bs : List Int) (hb : Below w0.heap.size w0 w) (hW : RW w w0.heap.size g E bs) (hl : bs.length ≤ 10000000) :
    Calls Try.prog 21 #[.pointer (some ⟨g, 0, none⟩), .int .i64 m.node, .int .i64 0] w fun e w' => e = .returned (.tuple #[]) ∧ Below w0.heap.size w0 w' ∧ RW w' w0.heap.size g (fst2 E (partE 1 m)) (bs ++ rB 1 m) := by
  refine (rnode_any m.node 0 w w0.heap.size g E bs hW (by omega) hb.size).mono ?_
  rintro e w' ⟨rfl, h1, h2⟩
  refine ⟨rfl, hb.trans h1, h2.cast ?_ rfl⟩
  rw [firstE_fst2]
  congr 1
  show _ = numE 0 m.node 1
  rw [show numE 0 m.node 1 = if m.node < 0 ∨ 9 < m.node then 1 else 0 from rfl]
  simp only [Bool.or_eq_true, decide_eq_true_eq]
  repeat' split
  all_goals first | rfl | omega
theorem e_err (m : M) (w0 w : World) (g : Nat) (E : Int) (bs : List Int) (hb : Below w0.heap.size w0 w) (hW : RW w w0.heap.size g E bs) (hl : bs.length ≤ 10000000) :
    Calls Try.prog 23 #[.pointer (some ⟨g, 0, none⟩), .int .i64 m.err] w fun e w' => e = .returned (.tuple #[]) ∧ Below w0.heap.size w0 w' ∧ RW w' w0.heap.size g (fst2 E (partE 4 m)) (bs ++ rB 4 m) := by
  refine (rerr_any m.err w w0.heap.size g E bs hW (by omega) hb.size).mono ?_
  rintro e w' ⟨rfl, h1, h2⟩
  refine ⟨rfl, hb.trans h1, h2.cast ?_ rfl⟩
  rw [firstE_fst2]
  congr 1
  show _ = numE 4 m.err 1
  rw [show numE 4 m.err 1 = if m.err < 0 ∨ 20 < m.err then 1 else 0 from rfl]
  simp only [Bool.or_eq_true, decide_eq_true_eq]
  repeat' split
  all_goals first | rfl | omega
theorem e_time (m : M) (w0 w : World) (g : Nat) (E : Int) (bs : List Int) (hb : Below w0.heap.size w0 w) (hW : RW w w0.heap.size g E bs) (hl : bs.length ≤ 10000000) :
    Calls Try.prog 25 #[.pointer (some ⟨g, 0, none⟩), .int .i64 m.lease] w fun e w' => e = .returned (.tuple #[]) ∧ Below w0.heap.size w0 w' ∧ RW w' w0.heap.size g (fst2 E (partE 7 m)) (bs ++ rB 7 m) := by
  refine (rtime_any m.lease w w0.heap.size g E bs hW (by omega) hb.size).mono ?_
  rintro e w' ⟨rfl, h1, h2⟩
  refine ⟨rfl, hb.trans h1, h2.cast ?_ rfl⟩
  rw [firstE_fst2]
  congr 1
  show _ = numE 3 m.lease 1
  rw [show numE 3 m.lease 1 = if m.lease < 1 ∨ 1000 < m.lease then 1 else 0 from rfl]
  simp only [Bool.or_eq_true, decide_eq_true_eq]
  repeat' split
  all_goals first | rfl | omega
theorem e_list (m : M) (w0 w : World) (g : Nat) (E : Int) (bs : List Int) (hb : Below w0.heap.size w0 w) (hW : RW w w0.heap.size g E bs) (hl : bs.length ≤ 10000000) (lp : Option Addr) (lc : Nat) (hI : Ints w0 lp m.list) (hll : m.list.length ≤ 100000) :
    Calls Try.prog 22 #[.pointer (some ⟨g, 0, none⟩), .slice lp m.list.length lc] w fun e w' => e = .returned (.tuple #[]) ∧ Below w0.heap.size w0 w' ∧ RW w' w0.heap.size g (fst2 E (partE 2 m)) (bs ++ rB 2 m) := by
  refine (rlistw_any m.list lp lc w0 w g E bs hb hW (by omega) (by omega) hI).mono ?_
  rintro e w' ⟨rfl, h1, h2⟩
  exact ⟨rfl, h1, h2.cast (list_fst2 E m.list) (by show _ = bs ++ ([(m.list.length : Int) % 256] ++ m.list.map (· % 256)); rw [List.append_assoc])⟩
theorem e_data (m : M) (w0 w : World) (g : Nat) (E : Int) (bs : List Int) (hb : Below w0.heap.size w0 w) (hW : RW w w0.heap.size g E bs) (hl : bs.length ≤ 10000000) (dp : Option Addr) (dc : Nat) (hD : Bytes w0 dp m.data) (hnil : dp = none → dc = 0 ∧ m.data.length = 0) (hdl : m.data.length ≤ 100000) :
    Calls Try.prog 24 #[.pointer (some ⟨g, 0, none⟩), .slice dp m.data.length dc] w fun e w' => e = .returned (.tuple #[]) ∧ Below w0.heap.size w0 w' ∧ RW w' w0.heap.size g (fst2 E (partE 6 m)) (bs ++ rB 6 m) := by
  refine (rdata_any m.data dp dc w0 w g E bs hb hW (by omega) (by omega) hD hnil).mono ?_
  rintro e w' ⟨rfl, h1, h2⟩
  refine ⟨rfl, h1, h2.cast ?_ (by show _ = bs ++ ([(m.data.length : Int) / 256 % 256, (m.data.length : Int) % 256] ++ m.data); rw [List.append_assoc])⟩
  rw [firstE_fst2]
  congr 1
  show _ = dataE m.data
  unfold dataE
  simp only [decide_eq_true_eq]
  repeat' split
  all_goals first | rfl | omega
end Go.Proofs.Ytcdmjjlbeifgjaa
