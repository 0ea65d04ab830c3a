/- Rows of memory, plain lists of SHA-256, signatures of the functions, regions with a tail. -/
import Derived.WalkKit
import Derived.Laws.Rows
import Derived.Laws.Tables
import Derived.Deep.MidRow
import Derived.Deep.Draws
import Derived.Laws.CopyOwn
import Derived.Test.YtoebnkepeledmaaDoorProg
import Derived.WalkSpells
import Derived.WalkLawsBesides
import Derived.StillTail
import Derived.BigQuiet
import Derived.Deep.QuietTactic
namespace Go.Proofs.YtoebnkepeledmaaDoor

section
open Go Go.RowKit

def gi (l : List Int) (j : Nat) : Int := l.getD j 0
def v8 (l : List Int) : Array Value := (l.map (Value.int .u8)).toArray
def v32 (l : List Int) : Array Value := (l.map (Value.int .u32)).toArray
def Row (w : World) (b : Nat) (t : TypeId) (vs : Array Value) : Prop := w.heap[b]? = some (.cells vs t (0, 0))

theorem v32_size (l : List Int) : (v32 l).size = l.length := by simp [v32]
theorem v8_size (l : List Int) : (v8 l).size = l.length := by simp [v8]
theorem v32_at {l : List Int} {j : Nat} (h : j < l.length) : (v32 l)[j]? = some (.int .u32 (gi l j)) := by simp [v32, gi, h]
theorem v8_at {l : List Int} {j : Nat} (h : j < l.length) : (v8 l)[j]? = some (.int .u8 (gi l j)) := by simp [v8, gi, h]
theorem v32_set (l : List Int) (j : Nat) (x : Int) : (v32 l).setIfInBounds j (.int .u32 x) = v32 (l.set j x) := by simp [v32, List.map_set]
theorem v8_set (l : List Int) (j : Nat) (x : Int) : (v8 l).setIfInBounds j (.int .u8 x) = v8 (l.set j x) := by simp [v8, List.map_set]
theorem v32_one (l : List Int) : (v32 l).all (·.oneCell') = true := by simp [v32]; intro a _; rfl
theorem v8_one (l : List Int) : (v8 l).all (·.oneCell') = true := by simp [v8]; intro a _; rfl

theorem Row.cell {w : World} {b j : Nat} {t : TypeId} {vs : Array Value} (h : Row w b t vs) : w.cell? ⟨b, j, none⟩ = vs[j]? := cell_of_row w b j vs t (0, 0) h
theorem Row.cell32 {w : World} {b j : Nat} {t : TypeId} {l : List Int} (h : Row w b t (v32 l)) (hj : j < l.length) : w.cell? ⟨b, j, none⟩ = some (.int .u32 (gi l j)) := h.cell.trans (v32_at hj)
theorem Row.cell8 {w : World} {b j : Nat} {t : TypeId} {l : List Int} (h : Row w b t (v8 l)) (hj : j < l.length) : w.cell? ⟨b, j, none⟩ = some (.int .u8 (gi l j)) := h.cell.trans (v8_at hj)
theorem Row.frozen {w : World} {b j : Nat} {t : TypeId} {vs : Array Value} (h : Row w b t vs) : w.frozen? ⟨b, j, none⟩ = false := frozen_of_row w b j vs t h
theorem Row.lt {w : World} {b : Nat} {t : TypeId} {vs : Array Value} (h : Row w b t vs) : b < w.heap.size := by
  unfold Row at h
  by_cases hb : b < w.heap.size
  · exact hb
  · rw [Array.getElem?_eq_none (by omega)] at h; cases h
theorem Row.drew {w : World} {b : Nat} {t : TypeId} {vs : Array Value} (h : Row w b t vs) : Row w.drew b t vs := h
theorem Row.drewN {w : World} {b : Nat} {t : TypeId} {vs : Array Value} (h : Row w b t vs) (n : Nat) : Row (w.drewN n) b t vs := h
theorem Row.set32 {w : World} {b : Nat} {t : TypeId} {l : List Int} (h : Row w b t (v32 l)) (j : Nat) (x : Int) : Row (w.setCell ⟨b, j, none⟩ (.int .u32 x)) b t (v32 (l.set j x)) := by
  have := heap_setCell_same w b j (v32 l) t (.int .u32 x) h
  rw [v32_set] at this; exact this
theorem Row.set8 {w : World} {b : Nat} {t : TypeId} {l : List Int} (h : Row w b t (v8 l)) (j : Nat) (x : Int) : Row (w.setCell ⟨b, j, none⟩ (.int .u8 x)) b t (v8 (l.set j x)) := by
  have := heap_setCell_same w b j (v8 l) t (.int .u8 x) h
  rw [v8_set] at this; exact this
theorem Row.setOther {w : World} {b : Nat} {t : TypeId} {vs : Array Value} (h : Row w b t vs) {a : Addr} (ha : b ≠ a.block) (v : Value) : Row (w.setCell a v) b t vs := by
  unfold Row; rw [heap_setCell_other w a b v ha]; exact h
theorem Row.alloc {w : World} {b : Nat} {t : TypeId} {vs : Array Value} (h : Row w b t vs) (o : Obj) : Row (w.alloc o) b t vs := by
  unfold Row; rw [Below.heap_alloc w o b h.lt]; exact h
theorem Row.new (w : World) (t : TypeId) (vs : Array Value) : Row (w.alloc (.cells vs t)) w.heap.size t vs := by unfold Row; show (w.heap.push _)[w.heap.size]? = _; simp
theorem Row.newAt (w : World) (t : TypeId) (vs : Array Value) (b : Nat) (hb : b = w.heap.size) : Row (w.alloc (.cells vs t)) b t vs := by subst hb; exact Row.new w t vs
theorem Row.below {w w' : World} {B b : Nat} {t : TypeId} {vs : Array Value} (h : Row w b t vs) (hb : Below B w w') (hlt : b < B) : Row w' b t vs := by
  unfold Row; rw [hb.block b hlt]; exact h
theorem Row.setRow {w : World} {b : Nat} {t : TypeId} {vs : Array Value} (h : Row w b t vs) (cs : Array Value) : Row (w.setRow b cs) b t cs := setRow_heap w b vs cs t _ h
theorem Row.setRowOther {w : World} {b g : Nat} {t : TypeId} {vs : Array Value} (h : Row w b t vs) (hg : b ≠ g) (cs : Array Value) : Row (w.setRow g cs) b t vs := by
  unfold Row; rw [setRow_other w g b cs hg]; exact h
theorem below_drewN {w w' : World} {B : Nat} (h : Below B w w') (n : Nat) : Below B w (w'.drewN n) := ⟨h.os, h.tape, h.output, h.size, h.block⟩
/-- A block that is known whole, whatever its mark: for what is only read. -/
def GRow (w : World) (b : Nat) (vs : Array Value) : Prop := ∃ t fr, w.heap[b]? = some (.cells vs t fr)
theorem GRow.cell {w : World} {b j : Nat} {vs : Array Value} (h : GRow w b vs) : w.cell? ⟨b, j, none⟩ = vs[j]? := let ⟨t, fr, h⟩ := h; cell_of_row w b j vs t fr h
theorem GRow.cell32 {w : World} {b j : Nat} {l : List Int} (h : GRow w b (v32 l)) (hj : j < l.length) : w.cell? ⟨b, j, none⟩ = some (.int .u32 (gi l j)) := h.cell.trans (v32_at hj)
theorem GRow.lt {w : World} {b : Nat} {vs : Array Value} (h : GRow w b vs) : b < w.heap.size := by
  obtain ⟨t, fr, h⟩ := h
  by_cases hb : b < w.heap.size
  · exact hb
  · rw [Array.getElem?_eq_none (by omega)] at h; cases h
theorem GRow.drewN {w : World} {b : Nat} {vs : Array Value} (h : GRow w b vs) (n : Nat) : GRow (w.drewN n) b vs := h
theorem GRow.alloc {w : World} {b : Nat} {vs : Array Value} (h : GRow w b vs) (o : Obj) : GRow (w.alloc o) b vs := by
  have hl := h.lt
  obtain ⟨t, fr, h⟩ := h
  exact ⟨t, fr, by rw [Below.heap_alloc w o b hl]; exact h⟩
theorem GRow.setRowOther {w : World} {b g : Nat} {vs : Array Value} (h : GRow w b vs) (hg : b ≠ g) (cs : Array Value) : GRow (w.setRow g cs) b vs := by
  obtain ⟨t, fr, h⟩ := h
  exact ⟨t, fr, by rw [setRow_other w g b cs hg]; exact h⟩
theorem GRow.below {w w' : World} {B b : Nat} {vs : Array Value} (h : GRow w b vs) (hb : Below B w w') (hlt : b < B) : GRow w' b vs := by
  obtain ⟨t, fr, h⟩ := h
  exact ⟨t, fr, by rw [hb.block b hlt]; exact h⟩

/-- A whole row stored: the frame stays as it was. -/
theorem store_row0 {P : Program} {ops : Array Oper} {rest : List Oper} {o : Oper} {a : Act} {w : World} {Q : Exit → Act → World → Prop} (ty : TypeId) (x y : Operand) (ho : o.op = .store ty x y) (hgd : o.guard = none) (hd : o.dst = none)
    (g : Nat) (cells : Array Value) (hx : a.eval x = .pointer (some ⟨g, 0, none⟩)) (hy : a.eval y = .agg cells)
    (t : TypeId) (old : Array Value) (hg : Row w g t old) (hi : (P.info? ty).map (·.size) = some cells.size)
    (hold : old.size = cells.size) (h1 : cells.all (·.oneCell') = true)
    (h : wpList P ops Q rest a (w.setRow g cells)) : wpList P ops Q (o :: rest) a w :=
  wpList_store_row hgd ty x y ho g cells hx hy t old hg hi hold h1 (by rw [hd]; exact h)

/-- 'a[i]' of an array of integers, by value. -/
theorem run_index_row {P : Program} {w : World} (t e : TypeId) (n : Nat) (q : IntKind) (cs : Array Value) (k : IntKind) (i : Nat) (v : Value) (h : P.underlying t = some (.array n e)) (he : P.underlying e = some (.int q)) (hs : (P.info? e).map (·.size) = some 1)
    (hi : i < n) (hv : cs[i]? = some v) : (Instr.index t (.agg cs) (.int k (i : Int))).run P w = .ok v w := by
  cases hq : P.info? e with
  | none => simp [hq] at hs
  | some inf =>
    have h1 : inf.size = 1 := by simpa [hq] using hs
    have hc : (0 : Int) ≤ (i : Int) ∧ (i : Int) < (n : Int) := by omega
    simp [Instr.index, run_underlying h, asIntOf, hc, go_sem, sizeOf, typeInfo, hq, h1, part, isAgg, run_underlying he, hv]
    intro hx; omega

/-- The bytes cs lie at the slice's address (where there is one at all). -/
def Bytes (w : World) (sp : Option Addr) (cs : List Int) : Prop :=
  0 < cs.length → ∃ b o, sp = some ⟨b, o, none⟩ ∧ ∀ j, j < cs.length → w.cell? ⟨b, o + j, none⟩ = some (.int .u8 (gi cs j))
theorem Bytes.below {w w' : World} {sp : Option Addr} {cs : List Int} (h : Bytes w sp cs) (hb : Below w.heap.size w w') : Bytes w' sp cs := fun hp => by
  obtain ⟨b, o, rfl, hc⟩ := h hp
  refine ⟨b, o, rfl, fun j hj => ?_⟩
  have h1 := hc j hj
  have h2 := block_lt_of_cell h1
  rw [hb.cell (p := ⟨b, o + j, none⟩) h2]; exact h1
theorem Bytes.take {w : World} {sp : Option Addr} {cs : List Int} (h : Bytes w sp cs) (n : Nat) : Bytes w sp (cs.take n) := fun hp => by
  simp only [List.length_take] at hp
  obtain ⟨b, o, rfl, hc⟩ := h (by omega)
  refine ⟨b, o, rfl, fun j hj => ?_⟩
  simp only [List.length_take] at hj
  rw [hc j (by omega)]
  simp [gi, show j < n by omega]
theorem Bytes.drop {w : World} {b o : Nat} {cs : List Int} (h : Bytes w (some ⟨b, o, none⟩) cs) (n : Nat) : Bytes w (some ⟨b, o + n, none⟩) (cs.drop n) := fun hp => by
  simp only [List.length_drop] at hp
  obtain ⟨b', o', e, hc⟩ := h (by omega)
  cases e
  refine ⟨b, o + n, rfl, fun j hj => ?_⟩
  simp only [List.length_drop] at hj
  rw [Nat.add_assoc, hc (n + j) (by omega)]
  simp [gi]
theorem Bytes.nil (w : World) (sp : Option Addr) : Bytes w sp [] := fun h => by simp at h
def spl (l : List Int) (off : Nat) (cs : List Int) : List Int := l.take off ++ (cs ++ l.drop (off + cs.length))
theorem spl_length (l : List Int) (off : Nat) (cs : List Int) (h : off + cs.length ≤ l.length) : (spl l off cs).length = l.length := by simp [spl]; omega

/-- 'copy' of bytes into a row that is known whole. -/
theorem copy8 {P : Program} {w : World} {ops : Array Oper} {rest : List Oper} {o : Oper} {a : Act} {Q : Exit → Act → World → Prop} (d s : Operand) (dT sT : TypeId)
    (ho : o.op = .call { callee := .builtin .copy, args := #[d, s], argTypes := #[dT, sT] }) (hgd : o.guard = none) (elem : TypeId) (hu : P.underlying dT = some (.slice elem)) (hsz : (P.info? elem).map (·.size) = some 1)
    (dp sp : Option Addr) (dLen dCap sLen sCap : Nat) (hd : a.eval d = .slice dp dLen dCap) (hs : a.eval s = .slice sp sLen sCap)
    (g off : Nat) (l : List Int) (t : TypeId) (hg : Row w g t (v8 l)) (cs : List Int) (hn : cs.length = min sLen dLen)
    (hdp : 0 < cs.length → dp = some ⟨g, off, none⟩) (hsp : Bytes w sp cs) (hfit : off + cs.length ≤ l.length)
    (h : wpList P ops Q rest (a.put o.dst (.int .i64 cs.length)) (w.setRow g (v8 (spl l off cs)))) : wpList P ops Q (o :: rest) a w := by
  by_cases h0 : cs.length = 0
  · obtain rfl : cs = [] := List.eq_nil_of_length_eq_zero h0
    refine wpList_copy_nothing hgd d s dT sT ho elem hu hsz dp sp dLen dCap sLen sCap hd hs (by simpa using hn.symm) ?_
    have e : w.setRow g (v8 (spl l off [])) = w := by
      rw [show spl l off [] = l by simp [spl]]; exact setRow_self w g _ t _ hg
    rw [e] at h; exact h
  · obtain ⟨b, ob, rfl, hsrc⟩ := hsp (by omega)
    have hd0 := hdp (by omega)
    subst hd0
    refine wpList_copy_own hgd d s dT sT ho elem hu hsz g off dLen dCap ⟨b, ob, none⟩ sLen sCap hd hs (v8 l) t hg (cs.map (Value.int .u8)) (by simpa using hn) (fun j v hv => ?_) (by rw [v8_size]; simpa using hfit) (fun v hv => ?_) ?_
    · rw [Addr.add_mid]
      have hj : j < cs.length := by
        have := (List.getElem?_eq_some_iff.1 hv).1; simpa using this
      rw [hsrc j hj, ← hv]; simp [gi, hj]
    · obtain ⟨x, _, rfl⟩ := List.mem_map.1 hv; rfl
    · have e : ((v8 l).toList.take off ++ (cs.map (Value.int .u8) ++ (v8 l).toList.drop (off + (cs.map (Value.int .u8)).length))).toArray = v8 (spl l off cs) := by
        simp [v8, spl, List.map_take, List.map_drop]
      rw [e]; simpa [goInt] using h
end

section
open Go

def add32 (a b : Int) : Int := (a + b) % 4294967296
def rotr (n : Nat) (x : Int) : Int := bits .or .u32 (x * 2 ^ (32 - n) % 4294967296) (x / 2 ^ n)
def xor32 (a b : Int) : Int := bits .xor .u32 a b
def and32 (a b : Int) : Int := bits .and .u32 a b
def or32 (a b : Int) : Int := bits .or .u32 a b
def not32 (a : Int) : Int := bits .xor .u32 (if IntKind.u32.signed = true then -1 else IntKind.u32.max) a
def ssig0 (x : Int) : Int := xor32 (xor32 (rotr 7 x) (rotr 18 x)) (x / 8)
def ssig1 (x : Int) : Int := xor32 (xor32 (rotr 17 x) (rotr 19 x)) (x / 1024)
def bsig0 (x : Int) : Int := xor32 (xor32 (rotr 2 x) (rotr 13 x)) (rotr 22 x)
def bsig1 (x : Int) : Int := xor32 (xor32 (rotr 6 x) (rotr 11 x)) (rotr 25 x)

theorem and_u64_31 (n : Nat) (h1 : 1 ≤ n) (h2 : n ≤ 31) : bits .and .u64 (IntKind.u64.wrap (-(n : Int))) 31 = ((32 - n : Nat) : Int) := by
  have h : ∀ m : Fin 32, 1 ≤ m.val → bits .and .u64 (IntKind.u64.wrap (-(m.val : Int))) 31 = ((32 - m.val : Nat) : Int) := by decide +kernel
  exact h ⟨n, by omega⟩ h1

def word (a b c d : Int) : Int := or32 (or32 (or32 (a % 4294967296 * 16777216 % 4294967296) (b % 4294967296 * 65536 % 4294967296)) (c % 4294967296 * 256 % 4294967296)) (d % 4294967296)
def put16 (bs l : List Int) (k : Nat) : List Int := l.set k (word (gi bs (4 * k)) (gi bs (4 * k + 1)) (gi bs (4 * k + 2)) (gi bs (4 * k + 3)))
def ext (l : List Int) (t : Nat) : List Int := l.set t ((ssig1 (gi l (t - 2)) + gi l (t - 7) + ssig0 (gi l (t - 15)) + gi l (t - 16)) % 4294967296)
def put48 (l : List Int) (k : Nat) : List Int := ext l (16 + k)
def putN (f : List Int → Nat → List Int) (l : List Int) : Nat → List Int
  | 0 => l
  | k + 1 => f (putN f l k) k
def zeros64 : List Int := List.replicate 64 0
def sched16 (bs : List Int) (k : Nat) : List Int := putN (put16 bs) zeros64 k
def sched48 (bs : List Int) (k : Nat) : List Int := putN put48 (sched16 bs 16) k
def sched (bs : List Int) : List Int := sched48 bs 48

theorem put16_length (bs l : List Int) (k : Nat) : (put16 bs l k).length = l.length := by simp [put16]
theorem put48_length (l : List Int) (k : Nat) : (put48 l k).length = l.length := by simp [put48, ext]
theorem putN_length {f : List Int → Nat → List Int} (hf : ∀ l k, (f l k).length = l.length) (l : List Int) : ∀ k, (putN f l k).length = l.length
  | 0 => rfl
  | k + 1 => by rw [putN, hf, putN_length hf l k]
theorem sched16_length (bs : List Int) (k : Nat) : (sched16 bs k).length = 64 := by unfold sched16; rw [putN_length (put16_length bs)]; simp [zeros64]
theorem sched48_length (bs : List Int) (k : Nat) : (sched48 bs k).length = 64 := by unfold sched48; rw [putN_length put48_length, sched16_length]
theorem sched48_succ (bs : List Int) (k : Nat) : sched48 bs (k + 1) = ext (sched48 bs k) (16 + k) := rfl
theorem sched_length (bs : List Int) : (sched bs).length = 64 := sched48_length bs 48

structure S8 where
  a : Int
  b : Int
  c : Int
  d : Int
  e : Int
  f : Int
  g : Int
  h : Int
def S8.row (s : S8) : Array Value := #[.int .u32 s.a, .int .u32 s.b, .int .u32 s.c, .int .u32 s.d, .int .u32 s.e, .int .u32 s.f, .int .u32 s.g, .int .u32 s.h]
def rndP (s : S8) (k w : Int) : Int := (s.h + bsig1 s.e + xor32 (and32 s.e s.f) (and32 (not32 s.e) s.g) + k + w) % 4294967296
def rndQ (s : S8) : Int := (bsig0 s.a + xor32 (xor32 (and32 s.a s.b) (and32 s.a s.c)) (and32 s.b s.c)) % 4294967296
def rnd (s : S8) (k w : Int) : S8 := ⟨(rndP s k w + rndQ s) % 4294967296, s.a, s.b, s.c, (s.d + rndP s k w) % 4294967296, s.e, s.f, s.g⟩
def rnds (K W : List Int) (s : S8) : Nat → S8
  | 0 => s
  | t + 1 => rnd (rnds K W s t) (gi K t) (gi W t)
def S8.plus (s r : S8) : S8 := ⟨(s.a + r.a) % 4294967296, (s.b + r.b) % 4294967296, (s.c + r.c) % 4294967296, (s.d + r.d) % 4294967296, (s.e + r.e) % 4294967296, (s.f + r.f) % 4294967296, (s.g + r.g) % 4294967296, (s.h + r.h) % 4294967296⟩
def stirS (K : List Int) (s : S8) (bs : List Int) : S8 := s.plus (rnds K (sched bs) s 64)

def chunk (bs : List Int) (k : Nat) : List Int := (bs.drop (64 * k)).take 64
def absorbN (K : List Int) (s : S8) (bs : List Int) : Nat → S8
  | 0 => s
  | k + 1 => stirS K (absorbN K s bs k) (chunk bs k)
def absorbS (K : List Int) (s : S8) (bs : List Int) : S8 := absorbN K s bs (bs.length / 64)
theorem chunk_length (bs : List Int) (k : Nat) (h : 64 * k + 64 ≤ bs.length) : (chunk bs k).length = 64 := by simp [chunk]; omega
theorem S8.row_v32 (s : S8) : s.row = v32 [s.a, s.b, s.c, s.d, s.e, s.f, s.g, s.h] := rfl
theorem S8.row_size (s : S8) : s.row.size = 8 := rfl
theorem S8.row_one (s : S8) : s.row.all (·.oneCell') = true := by rw [S8.row_v32]; exact v32_one _
def S8.zero : S8 := ⟨0, 0, 0, 0, 0, 0, 0, 0⟩

def S8.at (s : S8) (k : Nat) : Int := gi [s.a, s.b, s.c, s.d, s.e, s.f, s.g, s.h] k
theorem S8.row_at (s : S8) (k : Nat) (h : k < 8) : s.row[k]? = some (.int .u32 (s.at k)) := by
  rw [S8.row_v32]; exact v32_at (by simpa using h)
def wbytes (x : Int) : List Int := [x / 16777216 % 256, x / 65536 % 256, x / 256 % 256, x % 256]
def idN (s : S8) : Nat → List Int
  | 0 => List.replicate 32 0
  | k + 1 => spl (idN s k) (4 * k) (wbytes (s.at k))
def idS (s : S8) : List Int := idN s 8
theorem idN_length (s : S8) : ∀ k, k ≤ 8 → (idN s k).length = 32
  | 0, _ => by simp [idN]
  | k + 1, h => by
    have e := idN_length s k (by omega)
    rw [idN, spl_length _ _ _ (by simp [wbytes, e]; omega), e]
end

section
open Go

def zeros128 : List Int := List.replicate 128 0
def endBase (rs : List Int) : List Int := (spl zeros128 0 rs).set rs.length 128
def lenB (L : Int) (i : Nat) : Int := L / 2 ^ (8 * i) % 256
def endN (rs : List Int) (n : Nat) (L : Int) : Nat → List Int
  | 0 => endBase rs
  | i + 1 => (endN rs n L i).set (n - 1 - i) (lenB L i)
def endS (rs : List Int) (n : Nat) (L : Int) : List Int := endN rs n L 8
theorem endBase_length (rs : List Int) (h : rs.length ≤ 128) : (endBase rs).length = 128 := by
  unfold endBase; rw [List.length_set, spl_length _ _ _ (by simp [zeros128]; omega)]; simp [zeros128]
theorem endN_length (rs : List Int) (n : Nat) (L : Int) (h : rs.length ≤ 128) : ∀ i, (endN rs n L i).length = 128
  | 0 => endBase_length rs h
  | i + 1 => by rw [endN, List.length_set, endN_length rs n L h i]
end

section
open Go.RowKit

theorem ret_u32 {a b : Int} (h : a = b) : Ending.returned (.int .u32 a) = .returned (.int .u32 b) := by rw [h]

set_option maxHeartbeats 400000 in
theorem rotl_any (x : Int) (n : Nat) (w : World) (h1 : 1 ≤ n) (h2 : n ≤ 31) :
    Calls Tryd.prog 80 #[.int .u32 x, .int .i64 (-(n : Int))] w fun e w' => e = .returned (.int .u32 (rotr n x)) ∧ w' = w := by
  have hA := and_u64_31 n h1 h2
  go_enter Tryd.func80, Tryd.ntmps80
  go_wp2
  go_ret
  exact ⟨ret_u32 (by unfold rotr; rw [show 32 - (32 - n) = n by omega]), rfl⟩

set_option maxHeartbeats 400000 in
theorem turn_any (x : Int) (n : Nat) (w : World) (h1 : 1 ≤ n) (h2 : n ≤ 31) :
    Calls Tryd.prog 79 #[.int .u32 x, .int .i64 n] w fun e w' => e = .returned (.int .u32 (rotr n x)) ∧ w' = w := by
  go_enter Tryd.func79, Tryd.ntmps79
  go_wp2_with (go_at_call 80; refine (rotl_any x n _ h1 h2).mono ?_; rintro e w' ⟨rfl, rfl⟩)
  go_ret
  exact ⟨rfl, rfl⟩

set_option maxHeartbeats 400000 in
theorem turn_c (x c : Int) (w : World) (h1 : 1 ≤ c) (h2 : c ≤ 31) :
    Calls Tryd.prog 79 #[.int .u32 x, .int .i64 c] w fun e w' => e = .returned (.int .u32 (rotr c.toNat x)) ∧ w' = w := by
  have h := turn_any x c.toNat w (by omega) (by omega)
  rwa [Int.toNat_of_nonneg (by omega)] at h

set_option maxHeartbeats 400000 in
theorem bsig1_any (x : Int) (w : World) :
    Calls Tryd.prog 75 #[.int .u32 x] w fun e w' => e = .returned (.int .u32 (bsig1 x)) ∧ w' = w := by
  go_enter Tryd.func75, Tryd.ntmps75
  go_wp2_with (go_at_call 79; refine (turn_c x _ _ (by decide) (by decide)).mono ?_; rintro e w' ⟨rfl, rfl⟩)
  go_ret
  exact ⟨rfl, rfl⟩

set_option maxHeartbeats 400000 in
theorem bsig0_any (x : Int) (w : World) :
    Calls Tryd.prog 76 #[.int .u32 x] w fun e w' => e = .returned (.int .u32 (bsig0 x)) ∧ w' = w := by
  go_enter Tryd.func76, Tryd.ntmps76
  go_wp2_with (go_at_call 79; refine (turn_c x _ _ (by decide) (by decide)).mono ?_; rintro e w' ⟨rfl, rfl⟩)
  go_ret
  exact ⟨rfl, rfl⟩

set_option maxHeartbeats 400000 in
theorem ssig1_any (x : Int) (w : World) :
    Calls Tryd.prog 77 #[.int .u32 x] w fun e w' => e = .returned (.int .u32 (ssig1 x)) ∧ w' = w := by
  go_enter Tryd.func77, Tryd.ntmps77
  go_wp2_with (go_at_call 79; refine (turn_c x _ _ (by decide) (by decide)).mono ?_; rintro e w' ⟨rfl, rfl⟩)
  go_ret
  exact ⟨rfl, rfl⟩

set_option maxHeartbeats 400000 in
theorem ssig0_any (x : Int) (w : World) :
    Calls Tryd.prog 78 #[.int .u32 x] w fun e w' => e = .returned (.int .u32 (ssig0 x)) ∧ w' = w := by
  go_enter Tryd.func78, Tryd.ntmps78
  go_wp2_with (go_at_call 79; refine (turn_c x _ _ (by decide) (by decide)).mono ?_; rintro e w' ⟨rfl, rfl⟩)
  go_ret
  exact ⟨rfl, rfl⟩

theorem or32_comm (a b : Int) : bits .or .u32 a b = bits .or .u32 b a := by
  unfold bits; simp only [BitVec.or_comm]

set_option maxHeartbeats 400000 in
theorem rot_any (x : Int) (n : Nat) (w : World) (h1 : 1 ≤ n) (h2 : n ≤ 31) :
    Calls Tryd.prog 61 #[.int .u32 x, .int .u64 n] w fun e w' => e = .returned (.int .u32 (rotr n x)) ∧ w' = w := by
  go_enter Tryd.func61, Tryd.ntmps61
  go_wp2
  go_ret
  exact ⟨ret_u32 (by unfold rotr; rw [or32_comm]), rfl⟩

theorem rot_c (x c : Int) (w : World) (h1 : 1 ≤ c) (h2 : c ≤ 31) :
    Calls Tryd.prog 61 #[.int .u32 x, .int .u64 c] w fun e w' => e = .returned (.int .u32 (rotr c.toNat x)) ∧ w' = w := by
  have h := rot_any x c.toNat w (by omega) (by omega)
  rwa [Int.toNat_of_nonneg (by omega)] at h
end

section
open Go
variable {P : Program} {ops : Array Oper} {md : Region.Mode} {C : World → Prop}

/-- f operations of the head come up, whatever order is picked; then L. -/
def headAny (P : Program) (md : Region.Mode) (ops : Array Oper) (C : World → Prop) (n : Nat) (L : Array Bool → Act → Prop) : Nat → Array Bool → Act → Prop
  | 0, listed, a => L listed a
  | f + 1, listed, a => (∃ i, i ∈ Region.ready md ops listed) ∧ ∀ i, i ∈ Region.ready md ops listed → i < n ∧ qOp P ops C i (headAny P md ops C n L f (listed.setIfInBounds i true)) a

theorem headAny_wpAny {n g : Nat} {L : Array Bool → Act → Prop} {Q : Exit → Act → World → Prop} (hL : ∀ listed a w, C w → L listed a → wpAny P md ops Q g listed a w) :
    ∀ (f : Nat) (listed : Array Bool) (a : Act) (w : World), C w → headAny P md ops C n L f listed a → wpAny P md ops Q (f + g) listed a w := by
  intro f
  induction f with
  | zero => intro listed a w hw h; rw [Nat.zero_add]; exact hL _ _ _ hw h
  | succ f ih =>
    intro listed a w hw h
    obtain ⟨⟨i, hi⟩, hall⟩ := h
    rw [Nat.add_right_comm]
    refine ⟨fun h0 => ?_, fun j hj => wpOp_of_qOp hw (fun a' w' hw' hh => ih _ a' w' hw' hh) (hall j hj).2⟩
    rw [h0] at hi; cases hi

theorem headAny_first {n i : Nat} {oi : Oper} {v : Value} {L : Array Bool → Act → Prop} (hi : ops[i]? = some oi) (hsel : Region.noSelect ops = true)
    (hs : Region.sinkB md ops n = true) (hc : Region.chainB md ops n = true) (hn : n < ops.size) (hin : i < n)
    (hend : ∀ listed a, L listed a → ∀ j ∈ Region.ready md ops listed, n ≤ j) :
    ∀ (f : Nat) (listed : Array Bool) (a : Act), HeadInv md ops n listed →
      (∀ j oj, ops[j]? = some oj → j ≠ i → listed.getD j true = false → (∀ e ∈ oj.after, Region.binds md e = true → e.on ≠ i) → oi.apart ops oj = true) →
      i ∈ Region.ready md ops listed → YieldsIn P ops C oi v a →
      headAny P md ops C n L f (listed.setIfInBounds i true) (a.put oi.dst v) → headAny P md ops C n L (f + 1) listed a := by
  have nosel := fun j o (h : ops[j]? = some o) cs b => Region.noSelect_spec hsel j o cs b h
  intro f
  induction f with
  | zero =>
    intro listed a inv _ hr hy H
    refine ⟨⟨i, hr⟩, fun j hj => ?_⟩
    have hjn : j < n := Nat.lt_of_not_le fun hle => tail_waits hs hc hn inv _ i rfl hin (mem_ready.1 hr).1 j hle hj
    by_cases e : j = i
    · subst e; exact ⟨hjn, hy.qOp hi H⟩
    · have := hend _ _ H j (ready_mono hj e); omega
  | succ f ih =>
    intro listed a inv hfree hr hy H
    have hun := (mem_ready.1 hr).1
    refine ⟨⟨i, hr⟩, fun j hj => ?_⟩
    have hjn : j < n := Nat.lt_of_not_le fun hle => tail_waits hs hc hn inv _ i rfl hin hun j hle hj
    refine ⟨hjn, ?_⟩
    by_cases e : j = i
    · subst e; exact hy.qOp hi H
    · obtain ⟨hjun, oj, hoj, hall⟩ := mem_ready.1 hj
      have hq := (H.2 j (ready_mono hj e)).2
      have hap : oi.apart ops oj = true := hfree j oj hoj e hjun (fun ed hed hb heq => by
        have h1 := hall ed hed hb
        rw [heq, getD_both hun] at h1; cases h1)
      refine qOp_mono (fun a' h3 => ih _ a' (inv.set hj hjn) (fun k ok hk hki hkun hno => hfree k ok hk hki ?_ hno) (ready_mono hr (Ne.symm e)) h3.1 ?_)
        (qOp_put hoj hap (nosel i oi hi) (nosel j oj hoj) hy hq)
      · by_cases hjk : j = k
        · subst hjk; exact hjun
        · rw [getD_set_ne true hjk] at hkun; exact hkun
      · rw [Array.setIfInBounds_comm _ _ e]; exact h3.2

theorem headAny_lex {n g : Nat} {Lq : Act → Prop} (hsel : Region.noSelect ops = true) (hs : Region.sinkB md ops n = true) (hc : Region.chainB md ops n = true) (hn : n < ops.size) :
    ∀ (l : List Oper) (k : Nat) (listed : Array Bool) (a : Act), (∀ j, j < l.length → l[j]? = ops[k + j]?) → k + l.length = n → HeadInv md ops n listed →
    Region.lexHead md ops g l.length k listed = true → wpQuiet P ops C Lq l a →
    headAny P md ops C n (fun listed' a' => Region.seqB md ops g n listed' = true ∧ Lq a') l.length listed a := by
  intro l
  induction l with
  | nil =>
    intro k listed a _ hk _ hB h
    obtain rfl : k = n := by simpa using hk
    exact ⟨by simpa [Region.lexHead] using hB, h⟩
  | cons o l ih =>
    intro k listed a hl hk inv hB h
    have h0 : ops[k]? = some o := by simpa using (hl 0 (by simp)).symm
    simp only [List.length_cons] at hk
    simp only [List.length_cons, Region.lexHead, Bool.and_eq_true] at hB
    obtain ⟨⟨hr, hf⟩, hB'⟩ := hB
    have hr' : k ∈ Region.ready md ops listed := by simpa using hr
    obtain ⟨v, hy, hK⟩ := yieldsIn_of_qOp (C := C) (K := wpQuiet P ops C Lq l) h0 (by unfold qOp; simp only [h0]; exact h)
    refine headAny_first h0 hsel hs hc hn (by omega) (fun listed' a' hL => seqB_ready hL.1) _ listed a inv (Region.free_spec h0 hf) hr' hy
      (ih (k + 1) _ _ (fun j hj => ?_) (by omega) (inv.set hr' (by omega)) hB' hK)
    have := hl (j + 1) (by simp; omega)
    simpa [Nat.add_assoc, Nat.add_comm 1 j] using this

/-- The head quiet in the class 'w behind some draws'; the tail in the order of the text, in every world of the class. -/
theorem wp_region_quiet_tail {id : Nat} {Q : Exit → Act → World → Prop} {a : Act} {w : World} {l : List Oper} (n : Nat) (hm : P.follows .mixedOrders = true) (hB : Region.lexTailB .any l.toArray n = true)
    (h : wpQuiet P l.toArray (fun w' => ∃ n, w' = w.drewN n) (fun a' => ∀ w', (∃ n, w' = w.drewN n) → wpList P l.toArray Q (l.drop n) a' w') (l.take n) a) : (Code.region id l.toArray true).wp P Q a w := by
  simp only [Region.lexTailB, Bool.and_eq_true, decide_eq_true_eq] at hB
  obtain ⟨⟨⟨⟨hsel, hn⟩, hs⟩, hc⟩, hlex⟩ := hB
  have hnl : n < l.length := by simpa using hn
  have htl : (l.take n).length = n := by simp; omega
  have inv0 : HeadInv .any l.toArray n (Array.replicate l.toArray.size false) :=
    ⟨by simp, fun j oj _ hj => (by rw [getD_replicate_false] at hj; cases hj), fun t _ ht => getD_in (by simpa using ht) (getD_replicate_false _ _)⟩
  have H := headAny_lex (md := .any) (g := l.toArray.size - n) hsel hs hc hn (l.take n) 0 _ a (fun j hj => by
    rw [htl] at hj; simp [hj]) (by simpa using htl) inv0 (by rw [htl]; exact hlex) h
  refine wp_region_any hm ?_
  have hdl : (l.drop n).length = l.toArray.size - n := by simp
  have := headAny_wpAny (Q := Q) (g := l.toArray.size - n) (fun listed a' w' hw' hL => by
    have := wpAny_of_seq (md := .any) (Q' := Q) (l.drop n) n listed a' w' (fun j => by simp [List.getElem?_drop]) (by rw [hdl]; exact hL.1) (hL.2 w' hw')
    rwa [hdl] at this) _ _ _ (w.drewN 1) ⟨1, rfl⟩ H
  rw [htl, show n + (l.toArray.size - n) = l.toArray.size by omega] at this
  exact this
end

end Go.Proofs.YtoebnkepeledmaaDoor
