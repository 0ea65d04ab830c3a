/- A message in memory: its cells, and where its list and its bytes lie. No condition. -/
import Derived.Test.YtcdmjjlbeifgjaaWr
namespace Go.Proofs.Ytcdmjjlbeifgjaa
open Go Go.RowKit

/-- The numbers zs lie at the slice's address (where there is one at all). -/
def Ints (w : World) (p : Option Addr) (zs : List Int) : Prop :=
  0 < zs.length → ∃ b o, p = some ⟨b, o, none⟩ ∧ ∀ j, j < zs.length → w.cell? ⟨b, o + j, none⟩ = some (.int .i64 (gi zs j))
theorem Ints.below {w w' : World} {B : Nat} {p : Option Addr} {zs : List Int} (h : Ints w p zs) (hb : Below B w w') (hB : w.heap.size ≤ B) : Ints w' p zs := fun hp => by
  obtain ⟨b, o, rfl, hc⟩ := h hp
  refine ⟨b, o, rfl, fun j hj => ?_⟩
  have h1 := hc j hj
  have h4 := block_lt_of_cell h1
  rw [hb.cell (p := ⟨b, o + j, none⟩) (by simp only at h4 ⊢; omega)]; exact h1
theorem Ints.nil (w : World) (p : Option Addr) : Ints w p [] := fun h => by simp at h

/-- A message's forty cells. -/
def mc (m : M) (lp : Option Addr) (lc : Nat) (dp : Option Addr) (dc : Nat) : Array Value :=
  (([.int .i64 m.kind, .int .i64 m.node, .int .i64 m.pred, .slice lp m.list.length lc, .bool m.done] : List Value) ++ (m.key.map (Value.int .u8) ++ ([.slice dp m.data.length dc, .int .i64 m.lease, .int .i64 m.err] : List Value))).toArray
section
variable {m : M} {lp dp : Option Addr} {lc dc : Nat}
theorem mc_size (h : m.key.length = 32) : (mc m lp lc dp dc).size = 40 := by simp [mc, h]
theorem mc0 : (mc m lp lc dp dc)[0]? = some (.int .i64 m.kind) := by simp [mc]
theorem mc1 : (mc m lp lc dp dc)[1]? = some (.int .i64 m.node) := by simp [mc]
theorem mc2 : (mc m lp lc dp dc)[2]? = some (.int .i64 m.pred) := by simp [mc]
theorem mc3 : (mc m lp lc dp dc)[3]? = some (.slice lp m.list.length lc) := by simp [mc]
theorem mc4 : (mc m lp lc dp dc)[4]? = some (.bool m.done) := by simp [mc]
theorem mcK (h : m.key.length = 32) {j : Nat} (hj : j < 32) : (mc m lp lc dp dc)[5 + j]? = some (.int .u8 (gi m.key j)) := by
  simp only [mc, List.getElem?_toArray]
  rw [List.getElem?_append_right (by simp), List.getElem?_append_left (by simp; omega)]
  have : 5 + j - 5 = j := by omega
  simp [gi, this, h, hj]
theorem mc37 (h : m.key.length = 32) : (mc m lp lc dp dc)[37]? = some (.slice dp m.data.length dc) := by
  simp only [mc, List.getElem?_toArray]
  rw [List.getElem?_append_right (by simp), List.getElem?_append_right (by simp [h])]; simp [h]
theorem mc38 (h : m.key.length = 32) : (mc m lp lc dp dc)[38]? = some (.int .i64 m.lease) := by
  simp only [mc, List.getElem?_toArray]
  rw [List.getElem?_append_right (by simp), List.getElem?_append_right (by simp [h])]; simp [h]
theorem mc39 (h : m.key.length = 32) : (mc m lp lc dp dc)[39]? = some (.int .i64 m.err) := by
  simp only [mc, List.getElem?_toArray]
  rw [List.getElem?_append_right (by simp), List.getElem?_append_right (by simp [h])]; simp [h]
theorem mset0 (x : Int) : (mc m lp lc dp dc).setIfInBounds 0 (.int .i64 x) = mc { m with kind := x } lp lc dp dc := by simp [mc]
theorem mset1 (x : Int) : (mc m lp lc dp dc).setIfInBounds 1 (.int .i64 x) = mc { m with node := x } lp lc dp dc := by simp [mc]
theorem mset2 (x : Int) : (mc m lp lc dp dc).setIfInBounds 2 (.int .i64 x) = mc { m with pred := x } lp lc dp dc := by simp [mc]
theorem mset3 (l : List Int) (n : Nat) (hn : l.length = n) (p : Option Addr) (c : Nat) : (mc m lp lc dp dc).setIfInBounds 3 (.slice p n c) = mc { m with list := l } p c dp dc := by simp [mc, hn]
theorem mset4 (x : Bool) : (mc m lp lc dp dc).setIfInBounds 4 (.bool x) = mc { m with done := x } lp lc dp dc := by simp [mc]
theorem mset37 (h : m.key.length = 32) (l : List Int) (n : Nat) (hn : l.length = n) (p : Option Addr) (c : Nat) : (mc m lp lc dp dc).setIfInBounds 37 (.slice p n c) = mc { m with data := l } lp lc p c := by simp [mc, h, hn]
theorem mset38 (h : m.key.length = 32) (x : Int) : (mc m lp lc dp dc).setIfInBounds 38 (.int .i64 x) = mc { m with lease := x } lp lc dp dc := by simp [mc, h]
theorem mset39 (h : m.key.length = 32) (x : Int) : (mc m lp lc dp dc).setIfInBounds 39 (.int .i64 x) = mc { m with err := x } lp lc dp dc := by simp [mc, h]
theorem mc_one : (mc m lp lc dp dc).all (·.oneCell') = true := by
  rw [Array.all_eq_true_iff_forall_mem]
  intro x hx
  simp only [mc, List.mem_toArray, List.mem_append, List.mem_cons, List.mem_map, List.not_mem_nil, or_false] at hx
  rcases hx with (rfl | rfl | rfl | rfl | rfl) | ⟨a, _, rfl⟩ | rfl | rfl | rfl <;> rfl
end

/-- Where a message's list and bytes lie, and that they are as long as they say. -/
structure Fld (w : World) (m : M) (lp : Option Addr) (lc : Nat) (dp : Option Addr) (dc : Nat) : Prop where
  key : m.key.length = 32
  ints : Ints w lp m.list
  bytes : Bytes w dp m.data
  lcap : m.list.length ≤ lc
  dcap : m.data.length ≤ dc
  dnil : dp = none → dc = 0 ∧ m.data.length = 0
theorem Fld.below {w w' : World} {m : M} {lp dp : Option Addr} {lc dc : Nat} (h : Fld w m lp lc dp dc) (hb : Below w.heap.size w w') : Fld w' m lp lc dp dc :=
  ⟨h.key, h.ints.below hb (Nat.le_refl _), h.bytes.below hb, h.lcap, h.dcap, h.dnil⟩
/-- The key's bytes, where they lie in the message's row. -/
theorem key_bytes {w : World} {g : Nat} {m : M} {lp dp : Option Addr} {lc dc : Nat} {t : TypeId} (h : Row w g t (mc m lp lc dp dc)) (hk : m.key.length = 32) : Bytes w (some ⟨g, 5, none⟩) m.key := fun _ =>
  ⟨g, 5, rfl, fun j hj => by rw [h.cell]; exact mcK hk (by omega)⟩
end Go.Proofs.Ytcdmjjlbeifgjaa
