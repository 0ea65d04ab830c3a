/- The plain functions of the reference's hash, over integers. No condition. -/
import Derived.Test.YtoebnkepeledmaaDoorPair
namespace Go.Proofs.YtoebnkepeledmaaDoor
open Go

theorem gi_chunk (T : List Int) (t j : Nat) (ht : t % 64 = 0) (hj : j < 64) : gi (chunk T (t / 64)) j = gi T (t + j) := by
  have : 64 * (t / 64) = t := by omega
  simp [gi, chunk, this, hj]
def sch16 (C lw : List Int) (k : Nat) : List Int := putN (put16 C) lw k
theorem sch16_length {C lw : List Int} (h : lw.length = 64) (k : Nat) : (sch16 C lw k).length = 64 := by unfold sch16; rw [putN_length (put16_length C), h]
def sch48 (C lw : List Int) (k : Nat) : List Int := putN put48 (sch16 C lw 16) k
theorem sch48_length {C lw : List Int} (h : lw.length = 64) (k : Nat) : (sch48 C lw k).length = 64 := by unfold sch48; rw [putN_length put48_length, sch16_length h]
theorem sch48_succ (C lw : List Int) (k : Nat) : sch48 C lw (k + 1) = ext (sch48 C lw k) (16 + k) := rfl
theorem sch16_succ (C lw : List Int) (k : Nat) : sch16 C lw (k + 1) = put16 C (sch16 C lw k) k := rfl

def S8.list (s : S8) : List Int := [s.a, s.b, s.c, s.d, s.e, s.f, s.g, s.h]
def plusN (S A : S8) : Nat → List Int
  | 0 => S.list
  | k + 1 => (plusN S A k).set k ((gi (plusN S A k) k + gi A.list k) % 4294967296)
theorem plusN_length (S A : S8) : ∀ k, (plusN S A k).length = 8
  | 0 => rfl
  | k + 1 => by rw [plusN, List.length_set, plusN_length S A k]
theorem plusN_8 (S A : S8) : v32 (plusN S A 8) = (S.plus A).row := rfl
def outN (S : S8) : Nat → List Int
  | 0 => List.replicate 32 0
  | k + 1 => ((((outN S k).set (4 * k) (S.at k / 16777216 % 256)).set (4 * k + 1) (S.at k / 65536 % 256)).set (4 * k + 2) (S.at k / 256 % 256)).set (4 * k + 3) (S.at k % 256)
theorem outN_length (S : S8) : ∀ k, (outN S k).length = 32
  | 0 => by simp [outN]
  | k + 1 => by rw [outN, List.length_set, List.length_set, List.length_set, List.length_set, outN_length S k]
theorem spl_four (a b c d : Int) : ∀ (i : Nat) (l : List Int), i + 4 ≤ l.length → spl l i [a, b, c, d] = (((l.set i a).set (i + 1) b).set (i + 2) c).set (i + 3) d
  | 0, p :: q :: r :: s :: t, _ => rfl
  | 0, [], h => by simp at h
  | 0, [_], h => by simp at h
  | 0, [_, _], h => by simp at h
  | 0, [_, _, _], h => by simp at h
  | i + 1, [], h => by simp at h
  | i + 1, x :: l, h => by
    have ih := spl_four a b c d i l (by simp at h; omega)
    have e : spl (x :: l) (i + 1) [a, b, c, d] = x :: spl l i [a, b, c, d] := by simp [spl, show i + 1 + 4 = (i + 4) + 1 by omega]
    rw [e, ih]
    simp [List.set_cons_succ, show i + 1 + 1 = (i + 1) + 1 by omega, show i + 1 + 2 = (i + 2) + 1 by omega, show i + 1 + 3 = (i + 3) + 1 by omega]
theorem outN_id (S : S8) : ∀ k, k ≤ 8 → outN S k = idN S k
  | 0, _ => rfl
  | k + 1, h => by
    rw [outN, idN, outN_id S k (by omega), wbytes, spl_four _ _ _ _ _ _ (by rw [idN_length S k (by omega)]; omega)]

/-- The first t places do not hang on what lay there before. -/
theorem put_agree {l l' : List Int} {t : Nat} (hl : l.length = l'.length) (h : ∀ j, j < t → gi l j = gi l' j) (v : Int) : ∀ j, j < t + 1 → gi (l.set t v) j = gi (l'.set t v) j := fun j hj => by
  by_cases e : t = j
  · subst e
    by_cases hlt : t < l.length
    · rw [show gi (l.set t v) t = v by simp [gi, hlt], show gi (l'.set t v) t = v by simp [gi, ← hl, hlt]]
    · simp [gi, show ¬ t < l'.length by omega, hlt]
  · rw [show gi (l.set t v) j = gi l j by simp [gi, List.getElem?_set_ne e], show gi (l'.set t v) j = gi l' j by simp [gi, List.getElem?_set_ne e]]
    exact h j (by omega)
theorem sch16_agree (C : List Int) {lw lw' : List Int} (h1 : lw.length = 64) (h2 : lw'.length = 64) : ∀ k, ∀ j, j < k → gi (sch16 C lw k) j = gi (sch16 C lw' k) j
  | 0, j, hj => by omega
  | k + 1, j, hj => by
    rw [sch16_succ, sch16_succ, put16, put16]
    exact put_agree (by rw [sch16_length h1, sch16_length h2]) (sch16_agree C h1 h2 k) _ j hj
theorem sch48_agree (C : List Int) {lw lw' : List Int} (h1 : lw.length = 64) (h2 : lw'.length = 64) : ∀ k, ∀ j, j < 16 + k → gi (sch48 C lw k) j = gi (sch48 C lw' k) j
  | 0, j, hj => sch16_agree C h1 h2 16 j (by omega)
  | k + 1, j, hj => by
    have ih := sch48_agree C h1 h2 k
    rw [sch48_succ, sch48_succ, ext, ext, ih (16 + k - 2) (by omega), ih (16 + k - 7) (by omega), ih (16 + k - 15) (by omega), ih (16 + k - 16) (by omega)]
    exact put_agree (by rw [sch48_length h1, sch48_length h2]) ih _ j (by omega)
theorem sch48_sched {C lw : List Int} (h : lw.length = 64) : sch48 C lw 48 = sched C := by
  have h0 : zeros64.length = 64 := rfl
  refine eq_of_gi (by rw [sch48_length h, sched_length]) (fun j hj => ?_)
  rw [sch48_length h] at hj
  exact sch48_agree C h h0 48 j (by omega)

/-- What the round of the great loop leaves as it was. -/
def RefEnv (w : World) (gk gt : Nat) (T : List Int) (wx : World) : Prop :=
  Row wx gk 98 (v32 kWords) ∧ (∀ j, j < T.length → wx.cell? ⟨gt, j, none⟩ = some (.int .u8 (gi T j))) ∧ Row wx w.heap.size 24 (v8 (List.replicate 32 0)) ∧ RowKit.Below w.heap.size w wx
theorem RefEnv.drewN {w wx : World} {gk gt : Nat} {T : List Int} (h : RefEnv w gk gt T wx) (n : Nat) : RefEnv w gk gt T (wx.drewN n) := ⟨h.1.drewN n, h.2.1, h.2.2.1.drewN n, below_drewN h.2.2.2 n⟩
theorem RefEnv.setCell {w wx : World} {gk gt b : Nat} {T : List Int} (h : RefEnv w gk gt T wx) (h1 : gk ≠ b) (h2 : gt ≠ b) (h3 : w.heap.size < b) (j : Nat) (v : Value) : RefEnv w gk gt T (wx.setCell ⟨b, j, none⟩ v) :=
  ⟨h.1.setOther h1 v, fun i hi => by rw [World.cell?_setCell_other _ _ _ _ (by intro e; injection e with e1; exact h2 e1.symm)]; exact h.2.1 i hi, h.2.2.1.setOther (by show w.heap.size ≠ b; omega) v, h.2.2.2.setCell (by show w.heap.size ≤ b; omega) v⟩
theorem RefEnv.setRow {w wx : World} {gk gt b : Nat} {T : List Int} (h : RefEnv w gk gt T wx) (h1 : gk ≠ b) (h2 : gt ≠ b) (h3 : w.heap.size < b) (cs : Array Value) : RefEnv w gk gt T (wx.setRow b cs) :=
  ⟨h.1.setRowOther h1 cs, fun i hi => by rw [cell_setRow_other _ _ _ _ (by show gt ≠ b; exact h2)]; exact h.2.1 i hi, h.2.2.1.setRowOther (by omega) cs, below_setRow h.2.2.2 (by omega) cs⟩
theorem RefEnv.alloc {w wx : World} {gk gt : Nat} {T : List Int} (h : RefEnv w gk gt T wx) (o : Obj) : RefEnv w gk gt T (wx.alloc o) :=
  ⟨h.1.alloc o, fun i hi => by rw [World.cell?_alloc_lt _ _ _ (block_lt_of_cell (h.2.1 i hi))]; exact h.2.1 i hi, h.2.2.1.alloc o, h.2.2.2.alloc h.2.2.2.size o⟩

end Go.Proofs.YtoebnkepeledmaaDoor
