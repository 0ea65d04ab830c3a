/- Claims on slots for the walks by an invariant: a slice of one's own, a literal, a new variable; append that says which block grew. No condition. -/
import Derived.Test.YtgcffdnbihfghaaKit9
import Derived.Test.YtgcffdnbihfghaaRegInv
namespace Go.Proofs.Ytgcffdnbihfghaa
open Go Go.RowKit
/-- Nothing that was there has turned, but for one block. -/
def Grew (w w' : World) (ob : Option Nat) : Prop := ∀ g, g < w.heap.size → some g ≠ ob → w'.heap[g]? = w.heap[g]?
theorem Grew.of {w w' : World} {ob : Option Nat} (h : w.grownBy w' ob) : Grew w w' ob := by obtain ⟨_, _, _, _, hb⟩ := h; exact fun g hg hne => hb g hg hne
theorem Row.grew {w w' : World} {b : Nat} {t : TypeId} {vs : Array Value} {ob : Option Nat} (h : Row w b t vs) (hg : Grew w w' ob) (hne : some b ≠ ob) : Row w' b t vs := by
  unfold Row; rw [hg b h.lt hne]; exact h
theorem wp8g {P : Program} {w : World} {o : Oper} {a : Act} {K : Act → World → Prop} {Q : Exit → Act → World → Prop} (s x : Operand) (t e : TypeId)
    (ho : o.op = .call { callee := .builtin .append, args := #[s, x], argTypes := #[t, t] })
    (B : Nat) (ht : P.underlying t = some (.slice e)) (hinfo : (P.info? e).map (fun i => (i.zero, i.size, i.bytes)) = some (some (.int .u8 0), 1, 1))
    (v : Value) (l : List Int) (hs : a.eval s = v) (hown : Own8 w B e v l) (sp : Option Addr) (m c : Nat) (cs : List Int) (hx : a.eval x = .slice sp m c) (hm : cs.length = m) (hnil : sp = none → c = 0 ∧ m = 0) (hby : Bytes w sp cs)
    (hlen : l.length + m ≤ 70368744177664) (hB : B ≤ w.heap.size)
    (h : ∀ sp' cap' w', Own8 w' B e (.slice sp' (l ++ cs).length cap') (l ++ cs) → Below B w w' → w.grownBy w' v.ownBlock → K (a.put o.dst (.slice sp' (l ++ cs).length cap')) w') : Oper.wp P o a w K Q := by
  obtain ⟨i, hi, hz, h1, h2⟩ : ∃ i, P.info? e = some i ∧ i.zero = some (.int .u8 0) ∧ i.size = 1 ∧ i.bytes = 1 := by
    cases hq : P.info? e with
    | none => simp [hq] at hinfo
    | some i => simp [hq] at hinfo; exact ⟨i, rfl, hinfo.1, hinfo.2.1, hinfo.2.2⟩
  have hblk : ∀ k, v.ownBlock = some k → B ≤ k := fun k hk => by
    obtain ⟨_, hr⟩ := hown
    rcases hr with ⟨rfl, _⟩ | ⟨g, cap, cur, rfl, hg, _⟩
    · cases hk
    · cases hk; exact hg
  have key : ∀ v' w', w'.ownsRow B e 1 v' (l.length + m) (l.map (Value.int .u8) ++ cs.map (Value.int .u8)) → w.grownBy w' v.ownBlock → K (a.put o.dst v') w' := fun v' w' ho' hg' => by
    have hO : Own8 w' B e v' (l ++ cs) := by
      unfold Own8
      rw [List.length_append, List.map_append, hm]; exact ho'
    obtain ⟨sp', cap', rfl⟩ := hO.form
    exact h sp' cap' w' hO ((Below.refl B w).grown hg' hB hblk) hg'
  cases sp with
  | none =>
    obtain ⟨rfl, rfl⟩ := hnil rfl
    obtain rfl : cs = [] := List.eq_nil_of_length_eq_zero hm
    have hrun := run_append_owned_none (P := P) (w := w) B t o.type e i 1 ht hi v l.length (l.map (Value.int .u8)) hown
    unfold Oper.wp
    simp [execOp, ho, resolve, invoke, builtin, hs, hx, hrun, Result.andThen]
    refine key v w ?_ ⟨rfl, rfl, rfl, Nat.le_refl _, fun _ _ _ => rfl⟩
    unfold Own8 at hown; simpa using hown
  | some ad =>
    refine wp_append_own w s x t ho B e i (.int .u8 0) 1 1 ht hi hz h1 h2 rfl (by decide) v l.length (l.map (Value.int .u8)) hs hown ad m c (cs.map (Value.int .u8)) hx (by simp [hm]) (fun j u hu => ?_) (fun u hu => ?_) (by unfold maxLen; omega) (by omega) hB (fun v' w' h2 h3 _ => key v' w' h2 h3)
    · have hj : j < cs.length := by have := (List.getElem?_eq_some_iff.1 hu).1; simpa using this
      obtain ⟨b, ob, eb, hc⟩ := hby (by omega)
      cases eb
      rw [Addr.add_mid, hc j hj, ← hu]; simp [gi, hj]
    · obtain ⟨y, _, rfl⟩ := List.mem_map.1 hu; rfl
theorem append8g {P : Program} {w : World} {ops : Array Oper} {rest : List Oper} {o : Oper} {a : Act} {Q : Exit → Act → World → Prop} (s x : Operand) (t e : TypeId)
    (ho : o.op = .call { callee := .builtin .append, args := #[s, x], argTypes := #[t, t] }) (hgd : o.guard = none)
    (B : Nat) (ht : P.underlying t = some (.slice e)) (hinfo : (P.info? e).map (fun i => (i.zero, i.size, i.bytes)) = some (some (.int .u8 0), 1, 1))
    (v : Value) (l : List Int) (hs : a.eval s = v) (hown : Own8 w B e v l) (sp : Option Addr) (m c : Nat) (cs : List Int) (hx : a.eval x = .slice sp m c) (hm : cs.length = m) (hnil : sp = none → c = 0 ∧ m = 0) (hby : Bytes w sp cs)
    (hlen : l.length + m ≤ 70368744177664) (hB : B ≤ w.heap.size)
    (h : ∀ sp' cap' w', Own8 w' B e (.slice sp' (l ++ cs).length cap') (l ++ cs) → Below B w w' → w.grownBy w' v.ownBlock → wpList P ops Q rest (a.put o.dst (.slice sp' (l ++ cs).length cap')) w') : wpList P ops Q (o :: rest) a w :=
  wpList_plain hgd fun _ hK => wp8g s x t e ho B ht hinfo v l hs hown sp m c cs hx hm hnil hby hlen hB fun sp' cap' w' h1 h2 h3 => hK _ _ (h sp' cap' w' h1 h2 h3)
theorem step8g {P : Program} {w : World} {ops : Array Oper} {o : Oper} {a : Act} {K : Act → World → Prop} {Q : Exit → Act → World → Prop} {E : Prop} (s x : Operand) (t e : TypeId)
    (ho : o.op = .call { callee := .builtin .append, args := #[s, x], argTypes := #[t, t] }) (hgd : o.guard = none)
    (B : Nat) (ht : P.underlying t = some (.slice e)) (hinfo : (P.info? e).map (fun i => (i.zero, i.size, i.bytes)) = some (some (.int .u8 0), 1, 1))
    (v : Value) (l : List Int) (hs : a.eval s = v) (hown : Own8 w B e v l) (sp : Option Addr) (m c : Nat) (cs : List Int) (hx : a.eval x = .slice sp m c) (hm : cs.length = m) (hnil : sp = none → c = 0 ∧ m = 0) (hby : Bytes w sp cs)
    (hlen : l.length + m ≤ 70368744177664) (hB : B ≤ w.heap.size)
    (h : ∀ sp' cap' w', Own8 w' B e (.slice sp' (l ++ cs).length cap') (l ++ cs) → Below B w w' → w.grownBy w' v.ownBlock → K (a.put o.dst (.slice sp' (l ++ cs).length cap')) w') :
    if Region.wanted o (yielded ops a.tmps) = true then Oper.wp P o a w K Q else E := by
  rw [if_pos (by simp [Region.wanted, hgd])]
  exact wp8g s x t e ho B ht hinfo v l hs hown sp m c cs hx hm hnil hby hlen hB h

theorem bytes_lit (w : World) (cs : List Int) : Bytes (w.alloc (.cells (v8 cs) 5)) (some ⟨w.heap.size, 0, none⟩) cs := fun _ => ⟨_, _, rfl, fun j hj => by rw [Nat.zero_add]; exact (Row.new w 5 (v8 cs)).cell8 hj⟩
theorem Own8.alloc {w : World} {B : Nat} {e : TypeId} {v : Value} {l : List Int} (h : Own8 w B e v l) (o : Obj) : Own8 (w.alloc o) B e v l := h.below ((Below.refl _ _).alloc (Nat.le_refl _) o) (Nat.le_refl _)

theorem own_lt {w : World} {B : Nat} {e : TypeId} {v : Value} {l : List Int} (h : Own8 w B e v l) {g : Nat} (hg : w.heap.size ≤ g) : some g ≠ v.ownBlock := fun e1 => by
  obtain ⟨_, h⟩ := h
  rcases h with ⟨rfl, _⟩ | ⟨g', cap, cur, rfl, _, hh, _⟩
  · cases e1
  · cases e1
    rw [Array.getElem?_eq_none (by omega)] at hh; cases hh
theorem own_ge {w : World} {B : Nat} {e : TypeId} {v : Value} {l : List Int} (h : Own8 w B e v l) {g : Nat} (hg : g < B) : some g ≠ v.ownBlock := fun e1 => by
  obtain ⟨_, h⟩ := h
  rcases h with ⟨rfl, _⟩ | ⟨g', cap, cur, rfl, hB, _, _⟩
  · cases e1
  · have : g = g' := by simpa [Value.ownBlock] using e1
    omega
theorem own_nil0 {w : World} {B n cap : Nat} {e : TypeId} {sp : Option Addr} {l : List Int} (h : Own8 w B e (.slice sp n cap) l) : sp = none → cap = 0 ∧ n = 0 := fun hs => by
  obtain ⟨_, h⟩ := h
  rcases h with ⟨h1, h2⟩ | ⟨g', cap', cur, hv, _⟩
  · injection h1 with h3 h4 h5
    exact ⟨h5, h4⟩
  · injection hv with h3 h4 h5
    rw [hs] at h3; cases h3
def OwnS (w : World) (B : Nat) (s : Value) (n : Nat) (L : List Int) : Prop := ∃ sp cap, s = .slice sp n cap ∧ Own8 w B 5 (.slice sp n cap) L
def LitS (w : World) (B : Nat) (s : Value) (n : Nat) (L : List Int) : Prop := ∃ b, s = .slice (some ⟨b, 0, none⟩) n n ∧ Row w b 5 (v8 L) ∧ B ≤ b
def VarS (w : World) (B : Nat) (s : Value) (T : TypeId) (z : List Int) : Prop := ∃ b, s = .pointer (some ⟨b, 0, none⟩) ∧ Row w b T (v8 z) ∧ B ≤ b
theorem OwnS.alloc {w : World} {B n : Nat} {s : Value} {L : List Int} (h : OwnS w B s n L) (o : Obj) : OwnS (w.alloc o) B s n L := by
  obtain ⟨sp, cap, rfl, h⟩ := h
  exact ⟨sp, cap, rfl, h.alloc o⟩
theorem OwnS.below {w w' : World} {B n : Nat} {s : Value} {L : List Int} (h : OwnS w B s n L) (hb : Below w.heap.size w w') : OwnS w' B s n L := by
  obtain ⟨sp, cap, rfl, h⟩ := h
  exact ⟨sp, cap, rfl, h.below hb (Nat.le_refl _)⟩
theorem OwnS.new (w : World) (B : Nat) (hB : B ≤ w.heap.size) : OwnS (w.alloc (.cells (v8 []) 5)) B (.slice (some ⟨w.heap.size, 0, none⟩) 0 0) 0 [] := ⟨_, _, rfl, own8_lit w B hB⟩
theorem LitS.alloc {w : World} {B n : Nat} {s : Value} {L : List Int} (h : LitS w B s n L) (o : Obj) : LitS (w.alloc o) B s n L := by
  obtain ⟨b, rfl, h, hb⟩ := h
  exact ⟨b, rfl, h.alloc o, hb⟩
theorem LitS.below {w w' : World} {B n : Nat} {s : Value} {L : List Int} (h : LitS w B s n L) (hb : Below w.heap.size w w') : LitS w' B s n L := by
  obtain ⟨b, rfl, h, h2⟩ := h
  exact ⟨b, rfl, h.below hb h.lt, h2⟩
theorem LitS.grew {w w' : World} {B n : Nat} {s v : Value} {L : List Int} (h : LitS w B s n L) (hg : Grew w w' v.ownBlock) (hne : s.ownBlock ≠ v.ownBlock) : LitS w' B s n L := by
  obtain ⟨b, rfl, h, h2⟩ := h
  exact ⟨b, rfl, h.grew hg hne, h2⟩
theorem LitS.new (w : World) (B : Nat) (hB : B ≤ w.heap.size) (n : Nat) (L : List Int) (_ : L.length = n) : LitS (w.alloc (.cells (v8 L) 5)) B (.slice (some ⟨w.heap.size, 0, none⟩) n n) n L := ⟨_, rfl, Row.new _ _ _, hB⟩
theorem LitS.ne_own {w w' : World} {B n : Nat} {s v : Value} {L l : List Int} (h : LitS w B s n L) (ho : Own8 w' w.heap.size 5 v l) : s.ownBlock ≠ v.ownBlock := by
  obtain ⟨b, rfl, h, _⟩ := h
  exact own_ge ho h.lt
theorem LitS.ne_new {w : World} {B n m : Nat} {s : Value} {L : List Int} (h : LitS w B s n L) : s.ownBlock ≠ (Value.slice (some ⟨w.heap.size, 0, none⟩) m m).ownBlock := by
  obtain ⟨b, rfl, h, _⟩ := h
  have := h.lt
  intro e
  have : b = w.heap.size := by simpa [Value.ownBlock] using e
  omega
theorem litNew {w : World} {B n m : Nat} {s : Value} {L : List Int} (h : OwnS w B s n L) : (Value.slice (some ⟨w.heap.size, 0, none⟩) m m).ownBlock ≠ s.ownBlock := by
  obtain ⟨sp, cap, rfl, h⟩ := h
  exact own_lt h (Nat.le_refl _)
theorem VarS.alloc {w : World} {B : Nat} {s : Value} {T : TypeId} {z : List Int} (h : VarS w B s T z) (o : Obj) : VarS (w.alloc o) B s T z := by
  obtain ⟨b, rfl, h, hb⟩ := h
  exact ⟨b, rfl, h.alloc o, hb⟩
theorem VarS.below {w w' : World} {B : Nat} {s : Value} {T : TypeId} {z : List Int} (h : VarS w B s T z) (hb : Below w.heap.size w w') : VarS w' B s T z := by
  obtain ⟨b, rfl, h, h2⟩ := h
  exact ⟨b, rfl, h.below hb h.lt, h2⟩
theorem VarS.grew {w w' : World} {B B' : Nat} {s v : Value} {T : TypeId} {z l : List Int} (h : VarS w B s T z) (hg : Grew w w' v.ownBlock) (ho : Own8 w B' 5 v l) (hT : T ≠ 5) : VarS w' B s T z := by
  obtain ⟨b, rfl, h, h2⟩ := h
  refine ⟨b, rfl, h.grew hg (fun e1 => ?_), h2⟩
  obtain ⟨_, ho⟩ := ho
  rcases ho with ⟨rfl, _⟩ | ⟨g', cap, cur, rfl, _, hh, _⟩
  · cases e1
  · have e2 : b = g' := by simpa [Value.ownBlock] using e1
    subst e2
    unfold Row at h
    rw [h] at hh
    injection hh with hh
    injection hh with _ hh
    exact hT hh
theorem VarS.new (w : World) (B : Nat) (hB : B ≤ w.heap.size) (T : TypeId) (z : List Int) : VarS (w.alloc (.cells (v8 z) T)) B (.pointer (some ⟨w.heap.size, 0, none⟩)) T z := ⟨_, rfl, Row.new _ _ _, hB⟩
theorem var_ne {w : World} {B b : Nat} {v : Value} {T : TypeId} {vs : Array Value} {l : List Int} (h : Row w b T vs) (ho : Own8 w B 5 v l) (hT : T ≠ 5) : some b ≠ v.ownBlock := fun e1 => by
  obtain ⟨_, ho⟩ := ho
  rcases ho with ⟨rfl, _⟩ | ⟨g', cap, cur, rfl, _, hh, _⟩
  · cases e1
  · have e2 : b = g' := by simpa [Value.ownBlock] using e1
    subst e2
    unfold Row at h
    rw [h] at hh
    injection hh with hh
    injection hh with _ hh
    exact hT hh
theorem LitS.setVar {w : World} {B n b : Nat} {s : Value} {L : List Int} {T : TypeId} {vs cs : Array Value} (h : LitS w B s n L) (hr : Row w b T vs) (hT : T ≠ 5) : LitS (w.setRow b cs) B s n L := by
  obtain ⟨b', rfl, h, h2⟩ := h
  refine ⟨b', rfl, h.setRowOther (fun e => ?_) cs, h2⟩
  subst e
  unfold Row at h hr
  rw [h] at hr
  injection hr with hr
  injection hr with _ hr
  exact hT hr.symm
theorem inv_opG {P : Program} {ops : Array Oper} {Q : Exit → Act → World → Prop} {i : Nat} {o : Oper} {K : Act → World → Prop} {a : Act} {w : World} (ho : ops[i]? = some o) (hg : Region.wanted o (yielded ops a.tmps) = true) (h : Oper.wp P o a w K Q) : wpOp P ops Q i K a w := by
  unfold wpOp
  simp only [ho, hg, if_true]
  exact .inl h
theorem inv_valG {P : Program} {ops : Array Oper} {Q : Exit → Act → World → Prop} {i : Nat} {o : Oper} {K : Act → World → Prop} {a : Act} {w w' : World} (v : Value) (ho : ops[i]? = some o) (hg : Region.wanted o (yielded ops a.tmps) = true) (hr : (execOp a.eval o).run P w = .ok (.value v) w') (h : K (a.put o.dst v) w') : wpOp P ops Q i K a w := by
  refine inv_opG ho hg ?_
  unfold Oper.wp
  rw [hr]
  exact h
theorem inv_callG {P : Program} {ops : Array Oper} {Q : Exit → Act → World → Prop} {i : Nat} {o : Oper} {K : Act → World → Prop} {a : Act} {w : World} (f : FuncId) (vs : Array Value) (R : Ending → World → Prop) (ho : ops[i]? = some o) (hg : Region.wanted o (yielded ops a.tmps) = true) (hr : (execOp a.eval o).run P w = .ok (.enter f vs) w) (hc : Calls P f vs w R) (h : ∀ e w', R e w' → ∃ v, e = .returned v ∧ K (a.put o.dst v) w') : wpOp P ops Q i K a w := by
  refine inv_opG ho hg ?_
  unfold Oper.wp
  rw [hr]
  exact hc.mono fun e w' hR => by
    obtain ⟨v, rfl, hk⟩ := h e w' hR
    exact hk
theorem OwnS.lit (w : World) (B : Nat) (hB : B ≤ w.heap.size) (n : Nat) (L : List Int) (hn : L.length = n) (hl : n ≤ 1000000) : OwnS (w.alloc (.cells (v8 L) 5)) B (.slice (some ⟨w.heap.size, 0, none⟩) n n) n L :=
  ⟨_, _, rfl, (own8_row (Row.new _ _ _) hn (by unfold maxLen; omega)).mono hB⟩
theorem hsB {w w' : World} (h : Below w.heap.size w w') : w.heap.size ≤ w'.heap.size := h.size
end Go.Proofs.Ytgcffdnbihfghaa
