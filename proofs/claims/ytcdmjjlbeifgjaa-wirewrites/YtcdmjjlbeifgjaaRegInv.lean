/- A region that draws its order, whose first n operations go in whatever order and whose last ones wait for them all: by an invariant that each operation keeps. No condition. -/
import Derived.Test.YtcdmjjlbeifgjaaTail
namespace Go.Proofs.Ytcdmjjlbeifgjaa
open Go Go.RowKit
variable {P : Program}

/-- How many of the first m are not listed yet. -/
def left (listed : Array Bool) : Nat → Nat
  | 0 => 0
  | m + 1 => left listed m + (if listed.getD m false then 0 else 1)
theorem left_set {listed : Array Bool} {i : Nat} (hi : i < listed.size) (hf : listed.getD i false = false) : ∀ m, (i < m → left (listed.setIfInBounds i true) m + 1 = left listed m) ∧ (m ≤ i → left (listed.setIfInBounds i true) m = left listed m)
  | 0 => ⟨fun h => by omega, fun _ => rfl⟩
  | m + 1 => by
    obtain ⟨h1, h2⟩ := left_set hi hf m
    refine ⟨fun h => ?_, fun h => ?_⟩
    · by_cases e : i = m
      · subst e
        have := h2 (Nat.le_refl _)
        simp only [left, this, hf]
        simp [hi]
      · have := h1 (by omega)
        simp only [left]
        rw [getD_set_ne false e]
        omega
    · have := h2 (by omega)
      simp only [left, this]
      rw [getD_set_ne false (by omega)]
theorem left_zero {listed : Array Bool} : ∀ m, left listed m = 0 → ∀ i, i < m → listed.getD i false = true
  | 0, _, i, hi => by omega
  | m + 1, h, i, hi => by
    simp only [left] at h
    by_cases e : i = m
    · subst e
      cases hq : listed.getD i false
      · rw [hq] at h; simp at h
      · rfl
    · exact left_zero m (by omega) i (by omega)
theorem left_some {listed : Array Bool} : ∀ m, left listed m ≠ 0 → ∃ i, i < m ∧ listed.getD i false = false ∧ ∀ j, j < i → listed.getD j false = true
  | 0, h => absurd rfl h
  | m + 1, h => by
    by_cases h0 : left listed m = 0
    · refine ⟨m, by omega, ?_, left_zero m h0⟩
      simp only [left, h0] at h
      cases hq : listed.getD m false
      · rfl
      · rw [hq] at h; simp at h
    · obtain ⟨i, h1, h2, h3⟩ := left_some m h0
      exact ⟨i, by omega, h2, h3⟩
theorem left_none (k : Nat) : ∀ m, left (Array.replicate k false) m = m
  | 0 => rfl
  | m + 1 => by simp only [left, left_none k m, getD_replicate_false]; simp

def headTrue (n k : Nat) : Array Bool := (List.range k).map (fun i => decide (i < n)) |>.toArray
def invB (ops : Array Oper) (n : Nat) : Bool :=
  decide (n < ops.size) && Region.sinkB .any ops n && Region.chainB .any ops n &&
  ((List.range n).all fun i => match ops[i]? with | some o => o.after.all fun e => !Region.binds .any e || decide (e.on < i) | none => false) &&
  Region.seqB .any ops (ops.size - n) n (headTrue n ops.size)

theorem region_inv {id : Nat} {Q : Exit → Act → World → Prop} {a : Act} {w : World} {l : List Oper} (n : Nat) (hm : P.follows .mixedOrders = true) (hB : invB l.toArray n = true)
    (J : Array Bool → Act → World → Prop) (h0 : J (Array.replicate l.toArray.size false) a (w.drewN 1))
    (hstep : ∀ listed a w i o, listed.size = l.toArray.size → J listed a w → i < n → l.toArray[i]? = some o → listed.getD i false = false → (∀ e ∈ o.after, Region.binds .any e = true → listed.getD e.on false = true) → (∀ j oj, l.toArray[j]? = some oj → listed.getD j false = true → ∀ e ∈ oj.after, Region.binds .any e = true → listed.getD e.on false = true) → wpOp P l.toArray Q i (J (listed.setIfInBounds i true)) a w)
    (hend : ∀ listed a w, (∀ i, i < n → listed.getD i false = true) → J listed a w → wpList P l.toArray Q (l.drop n) a w) : (Code.region id l.toArray true).wp P Q a w := by
  simp only [invB, Bool.and_eq_true, decide_eq_true_eq] at hB
  obtain ⟨⟨⟨⟨hn, hs⟩, hc⟩, hback⟩, hseq⟩ := hB
  have hdl : (l.drop n).length = l.toArray.size - n := by simp
  have inv0 : HeadInv .any l.toArray n (Array.replicate l.toArray.size false) :=
    ⟨by simp, fun j oj _ hj => (by rw [getD_replicate_false] at hj; cases hj), fun t _ ht => getD_in (by simpa using ht) (getD_replicate_false _ _)⟩
  have key : ∀ (f : Nat) (listed : Array Bool) (a : Act) (w : World), left listed n = f → HeadInv .any l.toArray n listed → J listed a w → wpAny P .any l.toArray Q (f + (l.toArray.size - n)) listed a w := by
    intro f
    induction f with
    | zero =>
      intro listed a w hf inv hJ
      have hall := left_zero n hf
      have hl : listed = headTrue n l.toArray.size := by
        apply Array.ext
        · rw [inv.size]; simp [headTrue]
        · intro i h1 h2
          by_cases hi : i < n
          · have := hall i hi
            simp [h1] at this
            simp [headTrue, this, hi]
          · have := inv.tail i (by omega) (by rw [← inv.size]; exact h1)
            simp [h1] at this
            simp [headTrue, this, hi]
      have := wpAny_of_seq (P := P) (md := .any) (Q' := Q) (l.drop n) n listed a w (fun j => by simp [List.getElem?_drop]) (by rw [hdl, hl]; exact hseq) (hend listed a w hall hJ)
      rw [hdl] at this
      rw [Nat.zero_add]; exact this
    | succ f ih =>
      intro listed a w hf inv hJ
      obtain ⟨i0, hi0, hun, hbef⟩ := left_some n (by rw [hf]; omega)
      have hi0s : i0 < l.toArray.size := by omega
      have hun' : listed.getD i0 true = false := getD_in (by rw [inv.size]; exact hi0s) hun
      have hb0 := List.all_eq_true.1 hback i0 (List.mem_range.2 hi0)
      have hr0 : i0 ∈ Region.ready .any l.toArray listed := by
        refine mem_ready.2 ⟨hun', l.toArray[i0], by simp, fun e he hbe => ?_⟩
        rw [Array.getElem?_eq_getElem hi0s] at hb0
        simp only at hb0
        have h1 := Array.all_eq_true_iff_forall_mem.1 hb0 e he
        simp only [hbe, Bool.not_true, Bool.false_or, decide_eq_true_eq] at h1
        exact hbef e.on h1
      rw [show f + 1 + (l.toArray.size - n) = (f + (l.toArray.size - n)) + 1 by omega]
      refine ⟨fun h1 => (by rw [h1] at hr0; cases hr0), fun i hi => ?_⟩
      obtain ⟨hiun, o, ho, hall⟩ := mem_ready.1 hi
      have hin : i < n := Nat.lt_of_not_le fun hle => tail_waits hs hc hn inv _ i0 rfl hi0 hun' i hle hi
      have his : i < listed.size := by rw [inv.size]; exact (Array.getElem?_eq_some_iff.1 ho).1
      have hif := getD_both hiun
      refine wpOp_mono (fun a' w' hJ' => ih _ a' w' ?_ (inv.set hi hin) hJ') (hstep listed a w i o inv.size hJ hin ho hif hall inv.closed)
      have := (left_set his hif n).1 hin
      omega
  refine wp_region_any hm ?_
  have := key n _ a (w.drewN 1) (left_none _ n) inv0 h0
  rw [show n + (l.toArray.size - n) = l.toArray.size by omega] at this
  exact this

theorem region_invF {id : Nat} {Q : Exit → Act → World → Prop} {a : Act} {w : World} {l : List Oper} (n : Nat) (hm : P.follows .mixedOrders = true) (hB : invB l.toArray n = true)
    (J : Act → Array Bool → Act → World → Prop) (h0 : J a (Array.replicate l.toArray.size false) a (w.drewN 1))
    (hstep : ∀ listed a' w i o, listed.size = l.toArray.size → J a listed a' w → i < n → l.toArray[i]? = some o → listed.getD i false = false → (∀ e ∈ o.after, Region.binds .any e = true → listed.getD e.on false = true) → (∀ j oj, l.toArray[j]? = some oj → listed.getD j false = true → ∀ e ∈ oj.after, Region.binds .any e = true → listed.getD e.on false = true) → wpOp P l.toArray Q i (J a (listed.setIfInBounds i true)) a' w)
    (hend : ∀ listed a' w, (∀ i, i < n → listed.getD i false = true) → J a listed a' w → wpList P l.toArray Q (l.drop n) a' w) : (Code.region id l.toArray true).wp P Q a w :=
  region_inv n hm hB (J a) h0 hstep hend

def invAB (ops : Array Oper) : Bool := (List.range ops.size).all fun i => match ops[i]? with | some o => o.after.all fun e => !Region.binds .any e || decide (e.on < i) | none => false
/-- All operations in whatever order. -/
theorem region_invFA {id : Nat} {Q : Exit → Act → World → Prop} {a : Act} {w : World} {l : List Oper} (hm : P.follows .mixedOrders = true) (hback : invAB l.toArray = true)
    (J : Act → Array Bool → Act → World → Prop) (h0 : J a (Array.replicate l.toArray.size false) a (w.drewN 1))
    (hstep : ∀ listed a' w i o, listed.size = l.toArray.size → J a listed a' w → i < l.toArray.size → l.toArray[i]? = some o → listed.getD i false = false → (∀ e ∈ o.after, Region.binds .any e = true → listed.getD e.on false = true) → (∀ j oj, l.toArray[j]? = some oj → listed.getD j false = true → ∀ e ∈ oj.after, Region.binds .any e = true → listed.getD e.on false = true) → wpOp P l.toArray Q i (J a (listed.setIfInBounds i true)) a' w)
    (hend : ∀ listed a' w, (∀ i, i < l.toArray.size → listed.getD i false = true) → J a listed a' w → Q .normal a' w) : (Code.region id l.toArray true).wp P Q a w := by
  have inv0 : HeadInv .any l.toArray l.toArray.size (Array.replicate l.toArray.size false) :=
    ⟨by simp, fun j oj _ hj => (by rw [getD_replicate_false] at hj; cases hj), fun t h1 h2 => by omega⟩
  have key : ∀ (f : Nat) (listed : Array Bool) (a' : Act) (w : World), left listed l.toArray.size = f → HeadInv .any l.toArray l.toArray.size listed → J a listed a' w → wpAny P .any l.toArray Q f listed a' w := by
    intro f
    induction f with
    | zero =>
      intro listed a' w hf inv hJ
      have hall := left_zero _ hf
      refine ⟨?_, hend listed a' w hall hJ⟩
      cases hq : Region.ready .any l.toArray listed with
      | nil => rfl
      | cons i rs =>
        have hi : i ∈ Region.ready .any l.toArray listed := by rw [hq]; simp
        obtain ⟨hun, o, ho, _⟩ := mem_ready.1 hi
        have := hall i (Array.getElem?_eq_some_iff.1 ho).1
        rw [getD_both hun] at this
        cases this
    | succ f ih =>
      intro listed a' w hf inv hJ
      obtain ⟨i0, hi0, hun, hbef⟩ := left_some l.toArray.size (by rw [hf]; omega)
      have hun' : listed.getD i0 true = false := getD_in (by rw [inv.size]; exact hi0) hun
      have hb0 := List.all_eq_true.1 hback i0 (List.mem_range.2 hi0)
      have hr0 : i0 ∈ Region.ready .any l.toArray listed := by
        refine mem_ready.2 ⟨hun', l.toArray[i0], by simp, fun e he hbe => ?_⟩
        rw [Array.getElem?_eq_getElem hi0] at hb0
        simp only at hb0
        have h1 := Array.all_eq_true_iff_forall_mem.1 hb0 e he
        simp only [hbe, Bool.not_true, Bool.false_or, decide_eq_true_eq] at h1
        exact hbef e.on h1
      refine ⟨fun h1 => (by rw [h1] at hr0; cases hr0), fun i hi => ?_⟩
      obtain ⟨hiun, o, ho, hall⟩ := mem_ready.1 hi
      have his' := (Array.getElem?_eq_some_iff.1 ho).1
      have his : i < listed.size := by rw [inv.size]; exact his'
      have hif := getD_both hiun
      refine wpOp_mono (fun a2 w' hJ' => ih _ a2 w' ?_ (inv.set hi his') hJ') (hstep listed a' w i o inv.size hJ his' ho hif hall inv.closed)
      have := (left_set his hif l.toArray.size).1 his'
      omega
  refine wp_region_any hm ?_
  exact key _ _ a (w.drewN 1) (left_none _ _) inv0 h0

/-! ### One operation -/
theorem inv_op {ops : Array Oper} {Q : Exit → Act → World → Prop} {i : Nat} {o : Oper} {K : Act → World → Prop} {a : Act} {w : World} (ho : ops[i]? = some o) (hg : o.guard = none) (h : Oper.wp P o a w K Q) : wpOp P ops Q i K a w := by
  unfold wpOp
  simp only [ho, Region.wanted, hg, if_true]
  exact .inl h
/-- It yields v in that very world. -/
theorem inv_val {ops : Array Oper} {Q : Exit → Act → World → Prop} {i : Nat} {o : Oper} {K : Act → World → Prop} {a : Act} {w w' : World} (v : Value) (ho : ops[i]? = some o) (hg : o.guard = none) (hr : (execOp a.eval o).run P w = .ok (.value v) w') (h : K (a.put o.dst v) w') : wpOp P ops Q i K a w := by
  refine inv_op ho hg ?_
  unfold Oper.wp
  rw [hr]
  exact h
/-- It calls a function of the program. -/
theorem inv_call {ops : Array Oper} {Q : Exit → Act → World → Prop} {i : Nat} {o : Oper} {K : Act → World → Prop} {a : Act} {w : World} (f : FuncId) (vs : Array Value) (R : Ending → World → Prop) (ho : ops[i]? = some o) (hg : o.guard = none) (hr : (execOp a.eval o).run P w = .ok (.enter f vs) w) (hc : Calls P f vs w R) (h : ∀ e w', R e w' → ∃ v, e = .returned v ∧ K (a.put o.dst v) w') : wpOp P ops Q i K a w := by
  refine inv_op ho hg ?_
  unfold Oper.wp
  rw [hr]
  exact hc.mono fun e w' hR => by
    obtain ⟨v, rfl, hk⟩ := h e w' hR
    exact hk
theorem bit_ne {listed : Array Bool} {i j : Nat} {b : Bool} (h : (listed.setIfInBounds i true).getD j false = b) (hij : i ≠ j) : listed.getD j false = b := by rwa [getD_set_ne false hij] at h
theorem bit_on {listed : Array Bool} {i : Nat} (hi : i < listed.size) : (listed.setIfInBounds i true).getD i false = true := by simp [hi]
end Go.Proofs.Ytcdmjjlbeifgjaa
