/- The writer in memory, and 'append' onto its bytes. No condition but that the whole stays below 2^46 bytes. -/
import Derived.Test.YtcdmjjlbeifgjaaApp
import Derived.Test.YtcdmjjlbeifgjaaTail
import Derived.Test.YtcdmjjlbeifgjaaRows
import Derived.Test.YtcdmjjlbeifgjaaModel
namespace Go.Proofs.Ytcdmjjlbeifgjaa
open Go Go.RowKit

theorem info5 : (Try.prog.info? 5).map (fun i => (i.zero, i.size, i.bytes)) = some (some (.int .u8 0), 1, 1) := by kernel_rfl

/-- Rows of other types than e stay. -/
def Keep (e : TypeId) (w w' : World) : Prop := ∀ g t vs, t ≠ e → Row w g t vs → Row w' g t vs

theorem wp8 {P : Program} {w : World} {o : Oper} {a : Act} {K : Act → World → Prop} {Q : Exit → Act → World → Prop} (s x : Operand) (t e : TypeId)
    (ho : o.op = .call { callee := .builtin .append, args := #[s, x], argTypes := #[t, t] })
    (B : Nat) (ht : P.underlying t = some (.slice e)) (hinfo : (P.info? e).map (fun i => (i.zero, i.size, i.bytes)) = some (some (.int .u8 0), 1, 1))
    (v : Value) (l : List Int) (hs : a.eval s = v) (hown : Own8 w B e v l) (sp : Option Addr) (m c : Nat) (cs : List Int) (hx : a.eval x = .slice sp m c) (hm : cs.length = m) (hnil : sp = none → c = 0 ∧ m = 0) (hby : Bytes w sp cs)
    (hlen : l.length + m ≤ 70368744177664) (hB : B ≤ w.heap.size)
    (h : ∀ sp' cap' w', Own8 w' B e (.slice sp' (l ++ cs).length cap') (l ++ cs) → Below B w w' → Keep e w w' → K (a.put o.dst (.slice sp' (l ++ cs).length cap')) w') : Oper.wp P o a w K Q := by
  obtain ⟨i, hi, hz, h1, h2⟩ : ∃ i, P.info? e = some i ∧ i.zero = some (.int .u8 0) ∧ i.size = 1 ∧ i.bytes = 1 := by
    cases hq : P.info? e with
    | none => simp [hq] at hinfo
    | some i => simp [hq] at hinfo; exact ⟨i, rfl, hinfo.1, hinfo.2.1, hinfo.2.2⟩
  have hblk : ∀ k, v.ownBlock = some k → B ≤ k := fun k hk => by
    obtain ⟨_, hr⟩ := hown
    rcases hr with ⟨rfl, _⟩ | ⟨g, cap, cur, rfl, hg, _⟩
    · cases hk
    · cases hk; exact hg
  have hkeep : ∀ w', w.grownBy w' v.ownBlock → Keep e w w' := fun w' hg' g t vs hte hr => by
    have hne : some g ≠ v.ownBlock := fun e1 => by
      obtain ⟨_, h2⟩ := hown
      rcases h2 with ⟨rfl, _⟩ | ⟨g', cap, cur, rfl, _, hh, _⟩
      · cases e1
      · cases e1
        unfold Row at hr
        rw [hr] at hh
        injection hh with hh; injection hh with _ hh
        exact hte hh
    obtain ⟨_, _, _, _, hb⟩ := hg'
    unfold Row
    rw [hb g hr.lt hne]; exact hr
  have key : ∀ v' w', w'.ownsRow B e 1 v' (l.length + m) (l.map (Value.int .u8) ++ cs.map (Value.int .u8)) → w.grownBy w' v.ownBlock → K (a.put o.dst v') w' := fun v' w' ho' hg' => by
    have hO : Own8 w' B e v' (l ++ cs) := by
      unfold Own8
      rw [List.length_append, List.map_append, hm]; exact ho'
    obtain ⟨sp', cap', rfl⟩ := hO.form
    exact h sp' cap' w' hO ((Below.refl B w).grown hg' hB hblk) (hkeep w' hg')
  cases sp with
  | none =>
    obtain ⟨rfl, rfl⟩ := hnil rfl
    obtain rfl : cs = [] := List.eq_nil_of_length_eq_zero hm
    have hrun := run_append_owned_none (P := P) (w := w) B t o.type e i 1 ht hi v l.length (l.map (Value.int .u8)) hown
    unfold Oper.wp
    simp [execOp, ho, resolve, invoke, builtin, hs, hx, hrun, Result.andThen]
    refine key v w ?_ ⟨rfl, rfl, rfl, Nat.le_refl _, fun _ _ _ => rfl⟩
    unfold Own8 at hown; simpa using hown
  | some ad =>
    refine wp_append_own w s x t ho B e i (.int .u8 0) 1 1 ht hi hz h1 h2 rfl (by decide) v l.length (l.map (Value.int .u8)) hs hown ad m c (cs.map (Value.int .u8)) hx (by simp [hm]) (fun j u hu => ?_) (fun u hu => ?_) (by unfold maxLen; omega) (by omega) hB (fun v' w' h2 h3 _ => key v' w' h2 h3)
    · have hj : j < cs.length := by have := (List.getElem?_eq_some_iff.1 hu).1; simpa using this
      obtain ⟨b, ob, eb, hc⟩ := hby (by omega)
      cases eb
      rw [Addr.add_mid, hc j hj, ← hu]; simp [gi, hj]
    · obtain ⟨y, _, rfl⟩ := List.mem_map.1 hu; rfl
theorem append8k {P : Program} {w : World} {ops : Array Oper} {rest : List Oper} {o : Oper} {a : Act} {Q : Exit → Act → World → Prop} (s x : Operand) (t e : TypeId)
    (ho : o.op = .call { callee := .builtin .append, args := #[s, x], argTypes := #[t, t] }) (hgd : o.guard = none)
    (B : Nat) (ht : P.underlying t = some (.slice e)) (hinfo : (P.info? e).map (fun i => (i.zero, i.size, i.bytes)) = some (some (.int .u8 0), 1, 1))
    (v : Value) (l : List Int) (hs : a.eval s = v) (hown : Own8 w B e v l) (sp : Option Addr) (m c : Nat) (cs : List Int) (hx : a.eval x = .slice sp m c) (hm : cs.length = m) (hnil : sp = none → c = 0 ∧ m = 0) (hby : Bytes w sp cs)
    (hlen : l.length + m ≤ 70368744177664) (hB : B ≤ w.heap.size)
    (h : ∀ sp' cap' w', Own8 w' B e (.slice sp' (l ++ cs).length cap') (l ++ cs) → Below B w w' → Keep e w w' → wpList P ops Q rest (a.put o.dst (.slice sp' (l ++ cs).length cap')) w') : wpList P ops Q (o :: rest) a w :=
  wpList_plain hgd fun _ hK => wp8 s x t e ho B ht hinfo v l hs hown sp m c cs hx hm hnil hby hlen hB fun sp' cap' w' h1 h2 h3 => hK _ _ (h sp' cap' w' h1 h2 h3)
theorem step8 {P : Program} {w : World} {ops : Array Oper} {o : Oper} {a : Act} {K : Act → World → Prop} {Q : Exit → Act → World → Prop} {E : Prop} (s x : Operand) (t e : TypeId)
    (ho : o.op = .call { callee := .builtin .append, args := #[s, x], argTypes := #[t, t] }) (hgd : o.guard = none)
    (B : Nat) (ht : P.underlying t = some (.slice e)) (hinfo : (P.info? e).map (fun i => (i.zero, i.size, i.bytes)) = some (some (.int .u8 0), 1, 1))
    (v : Value) (l : List Int) (hs : a.eval s = v) (hown : Own8 w B e v l) (sp : Option Addr) (m c : Nat) (cs : List Int) (hx : a.eval x = .slice sp m c) (hm : cs.length = m) (hnil : sp = none → c = 0 ∧ m = 0) (hby : Bytes w sp cs)
    (hlen : l.length + m ≤ 70368744177664) (hB : B ≤ w.heap.size)
    (h : ∀ sp' cap' w', Own8 w' B e (.slice sp' (l ++ cs).length cap') (l ++ cs) → Below B w w' → Keep e w w' → K (a.put o.dst (.slice sp' (l ++ cs).length cap')) w') :
    if Region.wanted o (yielded ops a.tmps) = true then Oper.wp P o a w K Q else E := by
  rw [if_pos (by simp [Region.wanted, hgd])]
  exact wp8 s x t e ho B ht hinfo v l hs hown sp m c cs hx hm hnil hby hlen hB h
theorem Own8.keep {w : World} {B g : Nat} {e t : TypeId} {v u : Value} {l : List Int} {vs : Array Value} (h : Own8 w B e v l) (hr : Row w g t vs) (hte : t ≠ e) (j : Nat) : Own8 (w.setCell ⟨g, j, none⟩ u) B e v l := by
  obtain ⟨hl, h⟩ := h
  refine ⟨hl, ?_⟩
  rcases h with h | ⟨g', cap', cur, hv, hg, hh, r⟩
  · exact .inl h
  · refine .inr ⟨g', cap', cur, hv, hg, ?_, r⟩
    rw [heap_setCell_other w ⟨g, j, none⟩ g' u (fun e1 => by
      subst e1
      unfold Row at hr
      rw [hr] at hh
      injection hh with hh; injection hh with _ hh
      exact hte hh)]
    exact hh
theorem Own8.alloc {w : World} {B : Nat} {e : TypeId} {v : Value} {l : List Int} (h : Own8 w B e v l) (o : Obj) : Own8 (w.alloc o) B e v l := h.below ((Below.refl _ _).alloc (Nat.le_refl _) o) (Nat.le_refl _)
theorem Own8.drewN {w : World} {B : Nat} {e : TypeId} {v : Value} {l : List Int} (h : Own8 w B e v l) (n : Nat) : Own8 (w.drewN n) B e v l := h
theorem Own8.drew {w : World} {B : Nat} {e : TypeId} {v : Value} {l : List Int} (h : Own8 w B e v l) : Own8 w.drew B e v l := h
theorem bytes_new (w : World) (t : TypeId) (cs : List Int) : Bytes (w.alloc (.cells (v8 cs) t)) (some ⟨w.heap.size, 0, none⟩) cs := fun _ =>
  ⟨w.heap.size, 0, rfl, fun j hj => by rw [Nat.zero_add]; exact (Row.new w t (v8 cs)).cell8 hj⟩
theorem Row.set0 {w : World} {g : Nat} {t : TypeId} {vs : Array Value} (h : Row w g t vs) (j : Nat) (u : Value) : Row (w.setCell ⟨g, j, none⟩ u) g t (vs.setIfInBounds j u) := heap_setCell_same w g j vs t u h

/-- The writer at block g: its bytes so far, all of it from block B on. -/
def Wr (w : World) (B g : Nat) (bs : List Int) : Prop := B ≤ g ∧ ∃ sp cap, Row w g 49 #[.slice sp bs.length cap] ∧ Own8 w B 5 (.slice sp bs.length cap) bs
theorem Wr.stored {w : World} {B g : Nat} {u : Value} {sp : Option Addr} {n cap : Nat} {bs : List Int} (hB : B ≤ g) (hr : Row w g 49 #[u]) (hn : n = bs.length) (ho : Own8 w B 5 (.slice sp n cap) bs) :
    Wr (w.setCell ⟨g, 0, none⟩ (.slice sp n cap)) B g bs := by
  subst hn
  exact ⟨hB, sp, cap, hr.set0 0 _, ho.keep hr (by decide) 0⟩
theorem Wr.drewN {w : World} {B g : Nat} {bs : List Int} (h : Wr w B g bs) (n : Nat) : Wr (w.drewN n) B g bs := h
end Go.Proofs.Ytcdmjjlbeifgjaa
