/- 'append' onto a slice of numbers that the call has made. No condition but that the whole stays below 2^40 numbers. -/
import Derived.Test.YtcdmjjlbeifgjaaMsg
namespace Go.Proofs.Ytcdmjjlbeifgjaa
open Go Go.RowKit

theorem info3 : (Try.prog.info? 3).map (fun i => (i.zero, i.size, i.bytes)) = some (some (.int .i64 0), 1, 8) := by kernel_rfl
theorem info50 : (Try.prog.info? 50).map (fun i => (i.zero, i.size, i.bytes)) = some (some (.int .i64 0), 1, 8) := by kernel_rfl
/-- The slice value v is the call's own, from block B on, and holds the numbers l. -/
def OwnI (w : World) (B : Nat) (e : TypeId) (v : Value) (l : List Int) : Prop := w.ownsRow B e 1 v l.length (l.map (Value.int .i64))
theorem OwnI.form {w : World} {B : Nat} {e : TypeId} {v : Value} {l : List Int} (h : OwnI w B e v l) : ∃ sp cap, v = .slice sp l.length cap := by
  obtain ⟨_, h⟩ := h
  rcases h with ⟨rfl, h0⟩ | ⟨g, cap, cur, rfl, _⟩
  · exact ⟨none, 0, by rw [h0]⟩
  · exact ⟨_, _, rfl⟩
theorem OwnI.ints {w : World} {B : Nat} {e : TypeId} {sp : Option Addr} {n cap : Nat} {l : List Int} (h : OwnI w B e (.slice sp n cap) l) : Ints w sp l := fun hp => by
  obtain ⟨hl, h⟩ := h
  rcases h with ⟨_, h0⟩ | ⟨g, cap', cur, hv, hg, hh, hn, hc, hs, ht⟩
  · omega
  · injection hv with e1 e2 e3
    subst e1
    refine ⟨g, 0, rfl, fun j hj => ?_⟩
    rw [Nat.zero_add, cell_of_row w g j cur e (0, 0) hh]
    have h1 : (l.map (Value.int .i64))[j]? = some (.int .i64 (gi l j)) := by simp [gi, hj]
    rw [← ht, List.getElem?_take_of_lt (by omega)] at h1
    simpa using h1
theorem OwnI.capped {w : World} {B : Nat} {e : TypeId} {sp : Option Addr} {n cap : Nat} {l : List Int} (h : OwnI w B e (.slice sp n cap) l) : l.length ≤ cap := by
  obtain ⟨hl, h⟩ := h
  rcases h with ⟨_, h0⟩ | ⟨g, cap', cur, hv, hg, hh, hn, _⟩
  · omega
  · injection hv with e1 e2 e3; omega
theorem OwnI.below {w w' : World} {B B' : Nat} {e : TypeId} {v : Value} {l : List Int} (h : OwnI w B e v l) (hb : Below B' w w') (hB : w.heap.size ≤ B') : OwnI w' B e v l := by
  obtain ⟨hl, h⟩ := h
  refine ⟨hl, ?_⟩
  rcases h with h | ⟨g, cap', cur, hv, hg, hh, r⟩
  · exact .inl h
  · refine .inr ⟨g, cap', cur, hv, hg, ?_, r⟩
    have hlt : g < w.heap.size := Row.lt (t := e) (vs := cur) hh
    rw [hb.block g (by omega)]; exact hh
theorem OwnI.alloc {w : World} {B : Nat} {e : TypeId} {v : Value} {l : List Int} (h : OwnI w B e v l) (o : Obj) : OwnI (w.alloc o) B e v l := h.below ((Below.refl _ _).alloc (Nat.le_refl _) o) (Nat.le_refl _)
theorem OwnI.nil (w : World) (B : Nat) (e : TypeId) : OwnI w B e (.slice none 0 0) [] := World.ownsRow_nil _ _ _ _
theorem ints_new (w : World) (t : TypeId) (cs : List Int) : Ints (w.alloc (.cells (cs.map (Value.int .i64)).toArray t)) (some ⟨w.heap.size, 0, none⟩) cs := fun _ =>
  ⟨w.heap.size, 0, rfl, fun j hj => by rw [Nat.zero_add, (Row.new w t _).cell]; simp [gi, hj]⟩
theorem wpI {P : Program} {w : World} {o : Oper} {a : Act} {K : Act → World → Prop} {Q : Exit → Act → World → Prop} (s x : Operand) (t e : TypeId)
    (ho : o.op = .call { callee := .builtin .append, args := #[s, x], argTypes := #[t, t] })
    (B : Nat) (ht : P.underlying t = some (.slice e)) (hinfo : (P.info? e).map (fun i => (i.zero, i.size, i.bytes)) = some (some (.int .i64 0), 1, 8))
    (v : Value) (l : List Int) (hs : a.eval s = v) (hown : OwnI w B e v l) (sp : Option Addr) (m c : Nat) (cs : List Int) (hx : a.eval x = .slice sp m c) (hm : cs.length = m) (hnil : sp = none → c = 0 ∧ m = 0) (hby : Ints w sp cs)
    (hlen : l.length + m ≤ 1099511627776) (hB : B ≤ w.heap.size)
    (h : ∀ sp' cap' w', OwnI w' B e (.slice sp' (l ++ cs).length cap') (l ++ cs) → Below B w w' → Keep e w w' → K (a.put o.dst (.slice sp' (l ++ cs).length cap')) w') : Oper.wp P o a w K Q := by
  obtain ⟨i, hi, hz, h1, h2⟩ : ∃ i, P.info? e = some i ∧ i.zero = some (.int .i64 0) ∧ i.size = 1 ∧ i.bytes = 8 := by
    cases hq : P.info? e with
    | none => simp [hq] at hinfo
    | some i => simp [hq] at hinfo; exact ⟨i, rfl, hinfo.1, hinfo.2.1, hinfo.2.2⟩
  have hblk : ∀ k, v.ownBlock = some k → B ≤ k := fun k hk => by
    obtain ⟨_, hr⟩ := hown
    rcases hr with ⟨rfl, _⟩ | ⟨g, cap, cur, rfl, hg, _⟩
    · cases hk
    · cases hk; exact hg
  have hkeep : ∀ w', w.grownBy w' v.ownBlock → Keep e w w' := fun w' hg' g t vs hte hr => by
    have hne : some g ≠ v.ownBlock := fun e1 => by
      obtain ⟨_, h2⟩ := hown
      rcases h2 with ⟨rfl, _⟩ | ⟨g', cap, cur, rfl, _, hh, _⟩
      · cases e1
      · cases e1
        unfold Row at hr
        rw [hr] at hh
        injection hh with hh; injection hh with _ hh
        exact hte hh
    obtain ⟨_, _, _, _, hb⟩ := hg'
    unfold Row
    rw [hb g hr.lt hne]; exact hr
  have key : ∀ v' w', w'.ownsRow B e 1 v' (l.length + m) (l.map (Value.int .i64) ++ cs.map (Value.int .i64)) → w.grownBy w' v.ownBlock → K (a.put o.dst v') w' := fun v' w' ho' hg' => by
    have hO : OwnI w' B e v' (l ++ cs) := by
      unfold OwnI
      rw [List.length_append, List.map_append, hm]; exact ho'
    obtain ⟨sp', cap', rfl⟩ := hO.form
    exact h sp' cap' w' hO ((Below.refl B w).grown hg' hB hblk) (hkeep w' hg')
  cases sp with
  | none =>
    obtain ⟨rfl, rfl⟩ := hnil rfl
    obtain rfl : cs = [] := List.eq_nil_of_length_eq_zero hm
    have hrun := run_append_owned_none (P := P) (w := w) B t o.type e i 1 ht hi v l.length (l.map (Value.int .i64)) hown
    unfold Oper.wp
    simp [execOp, ho, resolve, invoke, builtin, hs, hx, hrun, Result.andThen]
    refine key v w ?_ ⟨rfl, rfl, rfl, Nat.le_refl _, fun _ _ _ => rfl⟩
    unfold OwnI at hown; simpa using hown
  | some ad =>
    refine wp_append_own w s x t ho B e i (.int .i64 0) 1 8 ht hi hz h1 h2 rfl (by decide) v l.length (l.map (Value.int .i64)) hs hown ad m c (cs.map (Value.int .i64)) hx (by simp [hm]) (fun j u hu => ?_) (fun u hu => ?_) (by unfold maxLen; omega) (by omega) hB (fun v' w' h2 h3 _ => key v' w' h2 h3)
    · have hj : j < cs.length := by have := (List.getElem?_eq_some_iff.1 hu).1; simpa using this
      obtain ⟨b, ob, eb, hc⟩ := hby (by omega)
      cases eb
      rw [Addr.add_mid, hc j hj, ← hu]; simp [gi, hj]
    · obtain ⟨y, _, rfl⟩ := List.mem_map.1 hu; rfl
theorem appendIk {P : Program} {w : World} {ops : Array Oper} {rest : List Oper} {o : Oper} {a : Act} {Q : Exit → Act → World → Prop} (s x : Operand) (t e : TypeId)
    (ho : o.op = .call { callee := .builtin .append, args := #[s, x], argTypes := #[t, t] }) (hgd : o.guard = none)
    (B : Nat) (ht : P.underlying t = some (.slice e)) (hinfo : (P.info? e).map (fun i => (i.zero, i.size, i.bytes)) = some (some (.int .i64 0), 1, 8))
    (v : Value) (l : List Int) (hs : a.eval s = v) (hown : OwnI w B e v l) (sp : Option Addr) (m c : Nat) (cs : List Int) (hx : a.eval x = .slice sp m c) (hm : cs.length = m) (hnil : sp = none → c = 0 ∧ m = 0) (hby : Ints w sp cs)
    (hlen : l.length + m ≤ 1099511627776) (hB : B ≤ w.heap.size)
    (h : ∀ sp' cap' w', OwnI w' B e (.slice sp' (l ++ cs).length cap') (l ++ cs) → Below B w w' → Keep e w w' → wpList P ops Q rest (a.put o.dst (.slice sp' (l ++ cs).length cap')) w') : wpList P ops Q (o :: rest) a w :=
  wpList_plain hgd fun _ hK => wpI s x t e ho B ht hinfo v l hs hown sp m c cs hx hm hnil hby hlen hB fun sp' cap' w' h1 h2 h3 => hK _ _ (h sp' cap' w' h1 h2 h3)
theorem stepI {P : Program} {w : World} {ops : Array Oper} {o : Oper} {a : Act} {K : Act → World → Prop} {Q : Exit → Act → World → Prop} {E : Prop} (s x : Operand) (t e : TypeId)
    (ho : o.op = .call { callee := .builtin .append, args := #[s, x], argTypes := #[t, t] }) (hgd : o.guard = none)
    (B : Nat) (ht : P.underlying t = some (.slice e)) (hinfo : (P.info? e).map (fun i => (i.zero, i.size, i.bytes)) = some (some (.int .i64 0), 1, 8))
    (v : Value) (l : List Int) (hs : a.eval s = v) (hown : OwnI w B e v l) (sp : Option Addr) (m c : Nat) (cs : List Int) (hx : a.eval x = .slice sp m c) (hm : cs.length = m) (hnil : sp = none → c = 0 ∧ m = 0) (hby : Ints w sp cs)
    (hlen : l.length + m ≤ 1099511627776) (hB : B ≤ w.heap.size)
    (h : ∀ sp' cap' w', OwnI w' B e (.slice sp' (l ++ cs).length cap') (l ++ cs) → Below B w w' → Keep e w w' → K (a.put o.dst (.slice sp' (l ++ cs).length cap')) w') :
    if Region.wanted o (yielded ops a.tmps) = true then Oper.wp P o a w K Q else E := by
  rw [if_pos (by simp [Region.wanted, hgd])]
  exact wpI s x t e ho B ht hinfo v l hs hown sp m c cs hx hm hnil hby hlen hB h
end Go.Proofs.Ytcdmjjlbeifgjaa
