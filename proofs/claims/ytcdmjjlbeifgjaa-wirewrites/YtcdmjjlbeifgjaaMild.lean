/- A region that draws its order, whose first operations leave old memory alone (loads, arithmetic, calls that make memory of their own), beside whom one new variable may be laid at any time, and whose last ones wait for them all: one walk in the order of the text serves every order. No condition. -/
import Derived.Test.YtcdmjjlbeifgjaaTail
import Derived.Test.YtcdmjjlbeifgjaaMem
namespace Go.Proofs.Ytcdmjjlbeifgjaa
open Go Go.RowKit
variable {P : Program} {ops : Array Oper} {md : Region.Mode} {w0 : World}

/-- What an operation yields, carried out in w: the value v in the very world; or a call that hands back v and turns nothing that was there. -/
def mildUpon (P : Program) (w : World) (v : Value) : Result Next → Prop
  | .ok (.value u) w' => w' = w ∧ u = v
  | .ok .skip w' => w' = w ∧ v = undef
  | .ok (.enter f args) w' => w' = w ∧ Calls P f args w (fun e w'' => e = .returned v ∧ Below w.heap.size w w'')
  | _ => False
def MildAt (P : Program) (w0 : World) (o : Oper) (a : Act) (v : Value) : Prop := ∀ w, Below w0.heap.size w0 w → mildUpon P w v ((execOp a.eval o).run P w)
def mOp (P : Program) (ops : Array Oper) (w0 : World) (i : Nat) (K : Act → Prop) (a : Act) : Prop :=
  match ops[i]? with
  | none => K a
  | some o => if Region.wanted o (yielded ops a.tmps) then ∃ v, MildAt P w0 o a v ∧ K (a.put o.dst v) else K (a.put o.dst undef)
def wpMild (P : Program) (ops : Array Oper) (w0 : World) (Q : Act → Prop) : List Oper → Act → Prop
  | [], a => Q a
  | o :: rest, a => if Region.wanted o (yielded ops a.tmps) then ∃ v, MildAt P w0 o a v ∧ wpMild P ops w0 Q rest (a.put o.dst v) else wpMild P ops w0 Q rest (a.put o.dst undef)
def YieldsM (P : Program) (ops : Array Oper) (w0 : World) (o : Oper) (v : Value) (a : Act) : Prop :=
  (Region.wanted o (yielded ops a.tmps) = true ∧ MildAt P w0 o a v) ∨ (Region.wanted o (yielded ops a.tmps) = false ∧ v = undef)

theorem below_step {w w' : World} (h : Below w0.heap.size w0 w) (h' : Below w.heap.size w w') : Below w0.heap.size w0 w' := h.trans (h'.mono h.size)

theorem wpOp_of_mOp {i : Nat} {a : Act} {K : Act → Prop} {K' : Act → World → Prop} {Q : Exit → Act → World → Prop} {w : World} (hw : Below w0.heap.size w0 w)
    (h : ∀ a' w', Below w.heap.size w w' → K a' → K' a' w') (hh : mOp P ops w0 i K a) : wpOp P ops Q i K' a w := by
  unfold mOp at hh
  unfold wpOp
  cases ho : ops[i]? with
  | none => simp only [ho] at hh ⊢; exact h _ _ (Below.refl _ _) hh
  | some o =>
    simp only [ho] at hh ⊢
    by_cases hwa : Region.wanted o (yielded ops a.tmps) = true
    · simp only [hwa, if_true] at hh ⊢
      obtain ⟨v, h1, h2⟩ := hh
      have h3 := h1 w hw
      refine .inl ?_
      unfold Oper.wp
      generalize (execOp a.eval o).run P w = r at *
      cases r with
      | ok n w' =>
        cases n <;> simp only [mildUpon] at h3 <;> simp only [Oper.upon]
        case value u => obtain ⟨rfl, rfl⟩ := h3; exact h _ _ (Below.refl _ _) h2
        case skip => obtain ⟨rfl, rfl⟩ := h3; exact h _ _ (Below.refl _ _) h2
        case enter f args =>
          obtain ⟨rfl, hc⟩ := h3
          exact hc.mono fun e w'' ⟨he, hb⟩ => by subst he; exact h _ _ hb h2
      | halt x w' => simp only [mildUpon] at h3
    · simp only [hwa] at hh ⊢
      exact h _ _ (Below.refl _ _) hh

theorem mOp_mono {i : Nat} {a : Act} {K K' : Act → Prop} (h : ∀ a, K a → K' a) (hh : mOp P ops w0 i K a) : mOp P ops w0 i K' a := by
  unfold mOp at *
  cases ho : ops[i]? with
  | none => simp only [ho] at hh ⊢; exact h _ hh
  | some o =>
    simp only [ho] at hh ⊢
    by_cases hwa : Region.wanted o (yielded ops a.tmps) = true
    · simp only [hwa, if_true] at hh ⊢
      obtain ⟨v, h1, h2⟩ := hh
      exact ⟨v, h1, h _ h2⟩
    · simp only [hwa] at hh ⊢; exact h _ hh

theorem YieldsM.mOp {i : Nat} {o : Oper} {v : Value} {a : Act} (hi : ops[i]? = some o) (hy : YieldsM P ops w0 o v a) {K : Act → Prop} (h : K (a.put o.dst v)) : mOp P ops w0 i K a := by
  unfold Ytcdmjjlbeifgjaa.mOp
  simp only [hi]
  rcases hy with ⟨hw, hv⟩ | ⟨hw, rfl⟩
  · simp only [hw, if_true]; exact ⟨v, hv, h⟩
  · simp only [hw, Bool.false_eq_true, if_false]; exact h

theorem MildAt.of_same {o : Oper} {v : Value} {a a' : Act} (h : MildAt P w0 o a v) (he : execOp a'.eval o = execOp a.eval o) : MildAt P w0 o a' v := by
  unfold MildAt at *; rw [he]; exact h

theorem YieldsM.of_same {o : Oper} {v : Value} {a a' : Act} (hy : YieldsM P ops w0 o v a) (he : execOp a'.eval o = execOp a.eval o)
    (hw : Region.wanted o (yielded ops a'.tmps) = Region.wanted o (yielded ops a.tmps)) : YieldsM P ops w0 o v a' := by
  unfold YieldsM; rw [hw]
  exact hy.imp (fun h => ⟨h.1, h.2.of_same he⟩) id

/-- What is put into another slot makes no difference to an operation that is apart from it. -/
theorem mOp_shift {j : Nat} {oj : Oper} (hj : ops[j]? = some oj) (hsj : ∀ cs b, oj.op ≠ .select cs b) {d : Option Tmp} {u : Value} (h1 : ∀ t, d = some t → t ∉ oj.looksAt ops) (h2 : ∀ t, d = some t → oj.dst ≠ some t)
    {K : Act → Prop} {a : Act} (h : mOp P ops w0 j K a) : mOp P ops w0 j (fun a' => ∃ b, a' = b.put d u ∧ K b) (a.put d u) := by
  unfold mOp at *
  simp only [hj] at *
  rw [wanted_put oj a d u h1]
  by_cases hwa : Region.wanted oj (yielded ops a.tmps) = true
  · simp only [hwa, if_true] at h ⊢
    obtain ⟨v, hv, hk⟩ := h
    exact ⟨v, hv.of_same (execOp_put oj hsj a d u h1), a.put oj.dst v, Act.put_comm a u v h2, hk⟩
  · simp only [hwa] at h ⊢
    exact ⟨a.put oj.dst undef, Act.put_comm a u undef h2, h⟩

theorem mOp_put {j : Nat} {oi oj : Oper} {v : Value} (hj : ops[j]? = some oj) (hap : oi.apart ops oj = true)
    (hsi : ∀ cs b, oi.op ≠ .select cs b) (hsj : ∀ cs b, oj.op ≠ .select cs b) {K : Act → Prop} {a : Act}
    (hy : YieldsM P ops w0 oi v a) (h : mOp P ops w0 j K (a.put oi.dst v)) :
    mOp P ops w0 j (fun a' => YieldsM P ops w0 oi v a' ∧ K (a'.put oi.dst v)) a := by
  obtain ⟨h1, h2, h3⟩ := Oper.apart_spec hap
  have keep : ∀ u, YieldsM P ops w0 oi v (a.put oj.dst u) := fun u => hy.of_same (execOp_put oi hsi a oj.dst u h3) (wanted_put oi a oj.dst u h3)
  unfold mOp at *
  simp only [hj] at *
  rw [wanted_put oj a oi.dst v h1] at h
  by_cases hwa : Region.wanted oj (yielded ops a.tmps) = true
  · simp only [hwa, if_true] at h ⊢
    obtain ⟨u, hu, hn⟩ := h
    exact ⟨u, hu.of_same (execOp_put oj hsj a oi.dst v h1).symm, keep u, by rw [← Act.put_comm a v u h2]; exact hn⟩
  · simp only [hwa] at h ⊢
    exact ⟨keep _, by rw [← Act.put_comm a v undef h2]; exact h⟩

def headM (P : Program) (md : Region.Mode) (ops : Array Oper) (w0 : World) (n : Nat) (L : Array Bool → Act → Prop) : Nat → Array Bool → Act → Prop
  | 0, listed, a => L listed a
  | f + 1, listed, a => (∃ i, i ∈ Region.ready md ops listed) ∧ ∀ i, i ∈ Region.ready md ops listed → i < n ∧ mOp P ops w0 i (headM P md ops w0 n L f (listed.setIfInBounds i true)) a

theorem headM_first {n i : Nat} {oi : Oper} {v : Value} {L : Array Bool → Act → Prop} (hi : ops[i]? = some oi) (hsel : Region.noSelect ops = true)
    (hs : Region.sinkB md ops n = true) (hc : Region.chainB md ops n = true) (hn : n < ops.size) (hin : i < n)
    (hend : ∀ listed a, L listed a → ∀ j ∈ Region.ready md ops listed, n ≤ j) :
    ∀ (f : Nat) (listed : Array Bool) (a : Act), HeadInv md ops n listed →
      (∀ j oj, ops[j]? = some oj → j ≠ i → listed.getD j true = false → (∀ e ∈ oj.after, Region.binds md e = true → e.on ≠ i) → oi.apart ops oj = true) →
      i ∈ Region.ready md ops listed → YieldsM P ops w0 oi v a →
      headM P md ops w0 n L f (listed.setIfInBounds i true) (a.put oi.dst v) → headM P md ops w0 n L (f + 1) listed a := by
  have nosel := fun j o (h : ops[j]? = some o) cs b => Region.noSelect_spec hsel j o cs b h
  intro f
  induction f with
  | zero =>
    intro listed a inv _ hr hy H
    refine ⟨⟨i, hr⟩, fun j hj => ?_⟩
    have hjn : j < n := Nat.lt_of_not_le fun hle => tail_waits hs hc hn inv _ i rfl hin (mem_ready.1 hr).1 j hle hj
    by_cases e : j = i
    · subst e; exact ⟨hjn, hy.mOp hi H⟩
    · have := hend _ _ H j (ready_mono hj e); omega
  | succ f ih =>
    intro listed a inv hfree hr hy H
    have hun := (mem_ready.1 hr).1
    refine ⟨⟨i, hr⟩, fun j hj => ?_⟩
    have hjn : j < n := Nat.lt_of_not_le fun hle => tail_waits hs hc hn inv _ i rfl hin hun j hle hj
    refine ⟨hjn, ?_⟩
    by_cases e : j = i
    · subst e; exact hy.mOp hi H
    · obtain ⟨hjun, oj, hoj, hall⟩ := mem_ready.1 hj
      have hq := (H.2 j (ready_mono hj e)).2
      have hap : oi.apart ops oj = true := hfree j oj hoj e hjun (fun ed hed hb heq => by
        have h1 := hall ed hed hb
        rw [heq, getD_both hun] at h1; cases h1)
      refine mOp_mono (fun a' h3 => ih _ a' (inv.set hj hjn) (fun k ok hk hki hkun hno => hfree k ok hk hki ?_ hno) (ready_mono hr (Ne.symm e)) h3.1 ?_)
        (mOp_put hoj hap (nosel i oi hi) (nosel j oj hoj) hy hq)
      · by_cases hjk : j = k
        · subst hjk; exact hjun
        · rw [getD_set_ne true hjk] at hkun; exact hkun
      · rw [Array.setIfInBounds_comm _ _ e]; exact h3.2

/-- From place k on f operations can be taken in the order of the text; then the tail, from n on, in the order of the text. -/
def lexHeadN (md : Region.Mode) (ops : Array Oper) (g n : Nat) : Nat → Nat → Array Bool → Bool
  | 0, _, listed => Region.seqB md ops g n listed
  | f + 1, k, listed => (Region.ready md ops listed).contains k && Region.free md ops listed k && lexHeadN md ops g n f (k + 1) (listed.setIfInBounds k true)

theorem headM_lex {n m g : Nat} {Lq : Act → Prop} (hsel : Region.noSelect ops = true) (hs : Region.sinkB md ops n = true) (hc : Region.chainB md ops n = true) (hn : n < ops.size) (hmn : m ≤ n) :
    ∀ (l : List Oper) (k : Nat) (listed : Array Bool) (a : Act), (∀ j, j < l.length → l[j]? = ops[k + j]?) → k + l.length = m → HeadInv md ops n listed →
    lexHeadN md ops g n l.length k listed = true → wpMild P ops w0 Lq l a →
    headM P md ops w0 n (fun listed' a' => Region.seqB md ops g n listed' = true ∧ Lq a') l.length listed a := by
  intro l
  induction l with
  | nil =>
    intro k listed a _ hk _ hB h
    exact ⟨hB, h⟩
  | cons o l ih =>
    intro k listed a hl hk inv hB h
    have h0 : ops[k]? = some o := by simpa using (hl 0 (by simp)).symm
    simp only [List.length_cons] at hk
    simp only [List.length_cons, lexHeadN, Bool.and_eq_true] at hB
    obtain ⟨⟨hr, hf⟩, hB'⟩ := hB
    have hr' : k ∈ Region.ready md ops listed := by simpa using hr
    have hy : ∃ v, YieldsM P ops w0 o v a ∧ wpMild P ops w0 Lq l (a.put o.dst v) := by
      unfold wpMild at h
      by_cases hwa : Region.wanted o (yielded ops a.tmps) = true
      · simp only [hwa, if_true] at h
        obtain ⟨v, h1, h2⟩ := h
        exact ⟨v, .inl ⟨hwa, h1⟩, h2⟩
      · simp only [hwa] at h
        exact ⟨undef, .inr ⟨by simpa using hwa, rfl⟩, h⟩
    obtain ⟨v, hy, hK⟩ := hy
    refine headM_first h0 hsel hs hc hn (by omega) (fun listed' a' hL => seqB_ready hL.1) _ listed a inv (Region.free_spec h0 hf) hr' hy
      (ih (k + 1) _ _ (fun j hj => ?_) (by omega) (inv.set hr' (by omega)) hB' hK)
    have := hl (j + 1) (by simp; omega)
    simpa [Nat.add_assoc, Nat.add_comm 1 j] using this

/-- The heads come up in whatever order, the slot d holding u; then what L leads to. -/
theorem headM_run {n p g : Nat} {d : Option Tmp} {u : Value} {L : Array Bool → Act → Prop} {Q : Exit → Act → World → Prop} {w1 : World} (hw1 : Below w0.heap.size w0 w1) (hsel : Region.noSelect ops = true)
    (hap : ∀ i oi, i ≠ p → i < n → ops[i]? = some oi → (∀ t, d = some t → t ∉ oi.looksAt ops) ∧ (∀ t, d = some t → oi.dst ≠ some t))
    (hL : ∀ listed a w, Below w1.heap.size w1 w → L listed a → wpAny P md ops Q g listed (a.put d u) w) :
    ∀ (f : Nat) (listed : Array Bool) (a : Act) (w : World), (d = none ∨ listed.getD p true = true) → Below w1.heap.size w1 w → headM P md ops w0 n L f listed a → wpAny P md ops Q (f + g) listed (a.put d u) w := by
  intro f
  induction f with
  | zero => intro listed a w _ hw h; rw [Nat.zero_add]; exact hL _ _ _ hw h
  | succ f ih =>
    intro listed a w hp hw h
    obtain ⟨⟨i, hi⟩, hall⟩ := h
    rw [Nat.add_right_comm]
    refine ⟨fun h0 => (by rw [h0] at hi; cases hi), fun j hj => ?_⟩
    obtain ⟨hjun, oj, hoj, _⟩ := mem_ready.1 hj
    obtain ⟨hjn, hm⟩ := hall j hj
    have hd : (∀ t, d = some t → t ∉ oj.looksAt ops) ∧ (∀ t, d = some t → oj.dst ≠ some t) := by
      rcases hp with hp | hp
      · subst hp; exact ⟨fun t h => (by cases h), fun t h => (by cases h)⟩
      · exact hap j oj (fun e => by subst e; rw [hp] at hjun; cases hjun) hjn hoj
    refine wpOp_of_mOp (below_step hw1 hw) (fun a' w' hb hk => ?_) (mOp_shift hoj (fun cs b => Region.noSelect_spec hsel j oj cs b hoj) hd.1 hd.2 hm)
    obtain ⟨b, rfl, hk⟩ := hk
    refine ih _ b w' ?_ (below_step hw hb) hk
    rcases hp with hp | hp
    · exact .inl hp
    · refine .inr ?_
      by_cases e : j = p
      · subst e; rw [hp] at hjun; cases hjun
      · rw [getD_set_ne true e]; exact hp

/-- The new variable has not been laid yet. -/
theorem headM_alloc {p g : Nat} {oA : Oper} {T : TypeId} {z : Array Value} {L : Array Bool → Act → Prop} {Q : Exit → Act → World → Prop} (hsel : Region.noSelect ops = true)
    (hs : Region.sinkB md ops (p + 1) = true) (hc : Region.chainB md ops (p + 1) = true) (hn : p + 1 < ops.size)
    (hA : ops[p]? = some oA) (haf : oA.after = #[]) (hgd : oA.guard = none) (hrun : ∀ (a : Act) (w : World), (execOp a.eval oA).run P w = .ok (.value (.pointer (some ⟨w.heap.size, 0, none⟩))) (w.alloc (.cells z T)))
    (hap : ∀ i oi, i ≠ p → i < p + 1 → ops[i]? = some oi → (∀ t, oA.dst = some t → t ∉ oi.looksAt ops) ∧ (∀ t, oA.dst = some t → oi.dst ≠ some t))
    (hend : ∀ listed a, L listed a → ∀ j ∈ Region.ready md ops listed, p + 1 ≤ j)
    (hL : ∀ listed a w b, w0.heap.size ≤ b → Below w0.heap.size w0 w → Row w b T z → L listed a → wpAny P md ops Q g listed (a.put oA.dst (.pointer (some ⟨b, 0, none⟩))) w) :
    ∀ (f : Nat) (listed : Array Bool) (a : Act) (w : World), HeadInv md ops (p + 1) listed → listed.getD p true = false → Below w0.heap.size w0 w →
      headM P md ops w0 (p + 1) L f (listed.setIfInBounds p true) a → wpAny P md ops Q (f + 1 + g) listed a w := by
  intro f
  induction f with
  | zero =>
    intro listed a w inv hun hw h
    rw [show 0 + 1 + g = g + 1 by omega]
    have hpr : p ∈ Region.ready md ops listed := mem_ready.2 ⟨hun, oA, hA, fun e he => by rw [haf] at he; simp at he⟩
    refine ⟨fun h0 => (by rw [h0] at hpr; cases hpr), fun i hi => ?_⟩
    by_cases e : i = p
    · subst e
      unfold wpOp
      simp only [hA, Region.wanted, hgd, if_true]
      refine .inl ?_
      unfold Oper.wp
      rw [hrun]
      simp only [Oper.upon]
      have := hL (listed.setIfInBounds i true) a (w.alloc (.cells z T)) w.heap.size hw.size (hw.alloc hw.size _) (Row.new _ _ _) h
      exact this
    · have h1 := hend _ _ h i (ready_mono hi e)
      exact absurd hi (tail_waits hs hc hn inv _ p rfl (by omega) hun i h1)
  | succ f ih =>
    intro listed a w inv hun hw h
    rw [show f + 1 + 1 + g = (f + 1 + g) + 1 by omega]
    have hpr : p ∈ Region.ready md ops listed := mem_ready.2 ⟨hun, oA, hA, fun e he => by rw [haf] at he; simp at he⟩
    refine ⟨fun h0 => (by rw [h0] at hpr; cases hpr), fun i hi => ?_⟩
    by_cases e : i = p
    · subst e
      unfold wpOp
      simp only [hA, Region.wanted, hgd, if_true]
      refine .inl ?_
      unfold Oper.wp
      rw [hrun]
      simp only [Oper.upon]
      have hb1 : Below w0.heap.size w0 (w.alloc (.cells z T)) := hw.alloc hw.size _
      have hr1 := Row.new w T z
      have hlt : i < listed.size := by rw [inv.size]; omega
      exact headM_run (p := i) hb1 hsel hap (fun listed' a' w' hb' hl => hL listed' a' w' w.heap.size hw.size (below_step hb1 hb') (hr1.below hb' hr1.lt) hl) (f + 1) _ a _ (.inr (by simp [hlt])) (Below.refl _ _) h
    · obtain ⟨hin, hm⟩ := h.2 i (ready_mono hi e)
      refine wpOp_of_mOp hw (fun a' w' hb hk => ?_) hm
      rw [Array.setIfInBounds_comm _ _ (Ne.symm e)] at hk
      exact ih _ a' w' (inv.set hi hin) (by rw [getD_set_ne true e]; exact hun) (below_step hw hb) hk

/-! ### The two rules -/
def mildTailB (ops : Array Oper) (n : Nat) : Bool :=
  Region.noSelect ops && decide (n < ops.size) && Region.sinkB .any ops n && Region.chainB .any ops n && lexHeadN .any ops (ops.size - n) n n 0 (Array.replicate ops.size false)
def mildAllocB (ops : Array Oper) (p : Nat) : Bool :=
  Region.noSelect ops && decide (p + 1 < ops.size) && Region.sinkB .any ops (p + 1) && Region.chainB .any ops (p + 1) &&
  (match ops[p]? with
   | some oA => oA.after.isEmpty && oA.guard.isNone && (List.range p).all fun i => match ops[i]? with | some oi => oA.apart ops oi | none => true
   | none => false) &&
  lexHeadN .any ops (ops.size - (p + 1)) (p + 1) p 0 ((Array.replicate ops.size false).setIfInBounds p true)

theorem wp_region_mild_tail {id : Nat} {Q : Exit → Act → World → Prop} {a a1 : Act} {w : World} {l : List Oper} (n : Nat) (hm : P.follows .mixedOrders = true) (hB : mildTailB l.toArray n = true)
    (h : wpMild P l.toArray w (fun a' => a' = a1) (l.take n) a) (k : ∀ w', Below w.heap.size w w' → wpList P l.toArray Q (l.drop n) a1 w') : (Code.region id l.toArray true).wp P Q a w := by
  simp only [mildTailB, Bool.and_eq_true, decide_eq_true_eq] at hB
  obtain ⟨⟨⟨⟨hsel, hn⟩, hs⟩, hc⟩, hlex⟩ := hB
  have hnl : n < l.length := by simpa using hn
  have htl : (l.take n).length = n := by simp; omega
  have inv0 : HeadInv .any l.toArray n (Array.replicate l.toArray.size false) :=
    ⟨by simp, fun j oj _ hj => (by rw [getD_replicate_false] at hj; cases hj), fun t _ ht => getD_in (by simpa using ht) (getD_replicate_false _ _)⟩
  have H := headM_lex (md := .any) (g := l.toArray.size - n) hsel hs hc hn (Nat.le_refl n) (l.take n) 0 _ a (fun j hj => by
    rw [htl] at hj; simp [hj]) (by simpa using htl) inv0 (by rw [htl]; exact hlex) h
  refine wp_region_any hm ?_
  have hdl : (l.drop n).length = l.toArray.size - n := by simp
  have hb0 : Below w.heap.size w (w.drewN 1) := below_drewN (Below.refl _ _) 1
  have := headM_run (p := 0) (d := none) (u := undef) (g := l.toArray.size - n) (Q := Q) hb0 hsel (fun i oi _ _ _ => ⟨fun t ht => (by cases ht), fun t ht => (by cases ht)⟩) (fun listed a' w' hb' hL => by
    obtain ⟨hseq, rfl⟩ := hL
    have := wpAny_of_seq (md := .any) (Q' := Q) (l.drop n) n listed a' w' (fun j => by simp [List.getElem?_drop]) (by rw [hdl]; exact hseq) (k w' (below_step hb0 hb'))
    rw [hdl] at this; exact this) _ _ a (w.drewN 1) (.inl rfl) (Below.refl _ _) H
  rw [htl, show n + (l.toArray.size - n) = l.toArray.size by omega] at this
  exact this

theorem wp_region_mild_alloc {id : Nat} {Q : Exit → Act → World → Prop} {a a1 : Act} {w : World} {l : List Oper} (p : Nat) (T : TypeId) (z : Array Value) (d : Tmp) (hm : P.follows .mixedOrders = true) (hB : mildAllocB l.toArray p = true)
    (hd : (l.toArray[p]?).bind (·.dst) = some d) (hrun : ∀ (a : Act) (w : World), ∀ o, l.toArray[p]? = some o → (execOp a.eval o).run P w = .ok (.value (.pointer (some ⟨w.heap.size, 0, none⟩))) (w.alloc (.cells z T)))
    (h : wpMild P l.toArray w (fun a' => a' = a1) (l.take p) a)
    (k : ∀ b w', w.heap.size ≤ b → Below w.heap.size w w' → Row w' b T z → wpList P l.toArray Q (l.drop (p + 1)) (a1.put (some d) (.pointer (some ⟨b, 0, none⟩))) w') : (Code.region id l.toArray true).wp P Q a w := by
  simp only [mildAllocB, Bool.and_eq_true, decide_eq_true_eq] at hB
  obtain ⟨⟨⟨⟨⟨hsel, hn⟩, hs⟩, hc⟩, hal⟩, hlex⟩ := hB
  cases hA : l.toArray[p]? with
  | none => simp [hA] at hd
  | some oA =>
    simp only [hA, Bool.and_eq_true] at hal
    obtain ⟨⟨hal1, hal2⟩, hal3⟩ := hal
    have hdst : oA.dst = some d := by simpa [hA] using hd
    have haf : oA.after = #[] := by simpa using hal1
    have hgd : oA.guard = none := by simpa using hal2
    have hnl : p + 1 < l.length := by simpa using hn
    have htl : (l.take p).length = p := by simp; omega
    have inv0 : HeadInv .any l.toArray (p + 1) (Array.replicate l.toArray.size false) :=
      ⟨by simp, fun j oj _ hj => (by rw [getD_replicate_false] at hj; cases hj), fun t _ ht => getD_in (by simpa using ht) (getD_replicate_false _ _)⟩
    have hunp : (Array.replicate l.toArray.size false).getD p true = false := getD_in (by simp; omega) (getD_replicate_false _ _)
    have hpr : p ∈ Region.ready .any l.toArray (Array.replicate l.toArray.size false) := mem_ready.2 ⟨hunp, oA, hA, fun e he => by rw [haf] at he; simp at he⟩
    have inv1 := inv0.set hpr (by omega)
    have H := headM_lex (md := .any) (g := l.toArray.size - (p + 1)) hsel hs hc hn (by omega : p ≤ p + 1) (l.take p) 0 _ a (fun j hj => by
      rw [htl] at hj; simp [hj]) (by simpa using htl) inv1 (by rw [htl]; exact hlex) h
    refine wp_region_any hm ?_
    have hdl : (l.drop (p + 1)).length = l.toArray.size - (p + 1) := by simp
    have hb0 : Below w.heap.size w (w.drewN 1) := below_drewN (Below.refl _ _) 1
    have := headM_alloc (p := p) (Q := Q) (g := l.toArray.size - (p + 1)) hsel hs hc hn hA haf hgd (fun a w => hrun a w oA hA) (fun i oi hne hlt hoi => by
      have h1 := List.all_eq_true.1 hal3 i (List.mem_range.2 (by omega))
      simp only [hoi] at h1
      exact ⟨(Oper.apart_spec h1).1, (Oper.apart_spec h1).2.1⟩) (fun listed' a' hL => seqB_ready hL.1) (fun listed a' w' b hb hbel hrow hL => by
      obtain ⟨hseq, rfl⟩ := hL
      have := wpAny_of_seq (md := .any) (Q' := Q) (l.drop (p + 1)) (p + 1) listed (a'.put (some d) (.pointer (some ⟨b, 0, none⟩))) w' (fun j => by simp [List.getElem?_drop]) (by rw [hdl]; exact hseq) (k b w' hb hbel hrow)
      rw [hdl] at this; rw [hdst]; exact this) _ _ a (w.drewN 1) inv0 hunp hb0 H
    rw [htl, show p + 1 + (l.toArray.size - (p + 1)) = l.toArray.size by omega] at this
    exact this

/-! ### The walk of the heads out of the kit's own: a class that is a family of worlds -/
def dstsB : List Oper → Nat → Bool
  | [], _ => true
  | o :: l, m => (match o.dst with | some d => decide (d < m) && l.all (fun o' => o'.dst != some d) | none => false) && dstsB l m

theorem wpQuiet_slot {C : World → Prop} {a1 : Act} {d : Tmp} : ∀ (l : List Oper) (a : Act), (∀ o ∈ l, o.dst ≠ some d) → wpQuiet P ops C (fun a' => a' = a1) l a → a1.tmps[d]? = a.tmps[d]?
  | [], a, _, h => by rw [show a = a1 from h]
  | o :: l, a, hd, h => by
    have hput : ∀ v, (a.put o.dst v).tmps[d]? = a.tmps[d]? := fun v => by
      cases e : o.dst with
      | none => rfl
      | some t =>
        have : t ≠ d := fun e' => hd o (by simp) (by rw [e, e'])
        simp [Act.put, Array.getElem?_setIfInBounds_ne this]
    unfold wpQuiet at h
    by_cases hwa : Region.wanted o (yielded ops a.tmps) = true
    · simp only [hwa, if_true] at h
      obtain ⟨v, _, h2⟩ := h
      rw [wpQuiet_slot l _ (fun o' ho => hd o' (by simp [ho])) h2, hput]
    · simp only [hwa] at h
      rw [wpQuiet_slot l _ (fun o' ho => hd o' (by simp [ho])) h, hput]

theorem mild_of_family {a1 : Act} : ∀ (l : List Oper) (a : Act), dstsB l a.tmps.size = true →
    (∀ (ι : Type) [Nonempty ι] (W : ι → World), (∀ i, Below w0.heap.size w0 (W i)) → (∀ i w', Below (W i).heap.size (W i) w' → ∃ j, w' = W j) → wpQuiet P ops (fun w' => ∃ i, w' = W i) (fun a' => a' = a1) l a) →
    wpMild P ops w0 (fun a' => a' = a1) l a
  | [], a, _, h => by
    haveI : Nonempty { w // Below w0.heap.size w0 w } := ⟨⟨w0, Below.refl _ _⟩⟩
    have := h { w // Below w0.heap.size w0 w } (fun i => i.1) (fun i => i.2) (fun i w' hb => ⟨⟨w', below_step i.2 hb⟩, rfl⟩)
    exact this
  | o :: l, a, hB, h => by
    simp only [dstsB, Bool.and_eq_true] at hB
    obtain ⟨hd, hB'⟩ := hB
    have hsize : ∀ v, (a.put o.dst v).tmps.size = a.tmps.size := fun v => by cases o.dst <;> simp [Act.put]
    unfold wpMild
    by_cases hwa : Region.wanted o (yielded ops a.tmps) = true
    · simp only [hwa, if_true]
      cases e : o.dst with
      | none => simp [e] at hd
      | some d =>
        simp only [e, Bool.and_eq_true, decide_eq_true_eq] at hd
        obtain ⟨hdlt, hall⟩ := hd
        have hne : ∀ o' ∈ l, o'.dst ≠ some d := fun o' ho => by
          have := List.all_eq_true.1 hall o' ho
          simpa using this
        have huni : ∀ (ι : Type) [Nonempty ι] (W : ι → World), (∀ i, Below w0.heap.size w0 (W i)) → (∀ i w', Below (W i).heap.size (W i) w' → ∃ j, w' = W j) →
            (∀ w, (∃ i, w = W i) → o.quietAt P a (fun w' => ∃ i, w' = W i) w (a1.tmps.getD d undef)) ∧ wpQuiet P ops (fun w' => ∃ i, w' = W i) (fun a' => a' = a1) l (a.put (some d) (a1.tmps.getD d undef)) := fun ι _ W hb hc => by
          have := h ι W hb hc
          unfold wpQuiet at this
          simp only [hwa, if_true, e] at this
          obtain ⟨v, h1, h2⟩ := this
          have hv := wpQuiet_slot l _ hne (by rw [e] at h2; exact h2)
          have : a1.tmps.getD d undef = v := by simp [Act.put, hdlt] at hv; simp [hv]
          rw [this]; rw [e] at h2
          exact ⟨h1, h2⟩
        refine ⟨a1.tmps.getD d undef, fun w hw => ?_, mild_of_family l _ (by have := hsize (a1.tmps.getD d undef); rw [e] at this; rw [this]; exact hB') (fun ι _ W hb hc => (huni ι W hb hc).2)⟩
        haveI : Nonempty { w' // Below w.heap.size w w' } := ⟨⟨w, Below.refl _ _⟩⟩
        have h1 := (huni { w' // Below w.heap.size w w' } (fun i => i.1) (fun i => below_step hw i.2) (fun i w' hb => ⟨⟨w', below_step i.2 hb⟩, rfl⟩)).1 w ⟨⟨w, Below.refl _ _⟩, rfl⟩
        unfold Oper.quietAt at h1
        generalize (execOp a.eval o).run P w = r at *
        cases r with
        | ok n w' =>
          cases n <;> simp only [Oper.quietUpon] at h1 <;> simp only [mildUpon]
          case value u => exact h1
          case skip => exact h1
          case enter f args => exact ⟨h1.1, h1.2.mono fun e w'' ⟨he, i, hi⟩ => ⟨he, by rw [hi]; exact i.2⟩⟩
        | halt x w' => simp only [Oper.quietUpon] at h1
    · simp only [hwa]
      refine mild_of_family l _ (by rw [hsize]; exact hB') (fun ι _ W hb hc => ?_)
      have := h ι W hb hc
      unfold wpQuiet at this
      simp only [hwa] at this
      exact this

/-- A whole row, loaded in a family of worlds. -/
theorem q_load_row {ι : Type} {W : ι → World} {Q : Act → Prop} {rest : List Oper} {o : Oper} {a : Act} (ty : TypeId) (x : Operand) (ho : o.op = .load ty x) (hgd : o.guard = none)
    (g : Nat) (hx : a.eval x = .pointer (some ⟨g, 0, none⟩)) (t : TypeId) (cs : Array Value) (d : TypeDesc) (hr : ∀ i, Row (W i) g t cs)
    (hu : P.underlying ty = some d) (hd : (match d with | .struct _ | .array _ _ => true | _ => false) = true) (hi : (P.info? ty).map (·.size) = some cs.size)
    (h : wpQuiet P ops (fun w' => ∃ i, w' = W i) Q rest (a.put o.dst (.agg cs))) : wpQuiet P ops (fun w' => ∃ i, w' = W i) Q (o :: rest) a := by
  unfold wpQuiet
  simp only [Region.wanted, hgd, if_true]
  refine ⟨.agg cs, fun w hw => ?_, h⟩
  obtain ⟨i, rfl⟩ := hw
  unfold Oper.quietAt execOp
  simp only [ho, hx, Instr.loadAt, Instr.sureAddr, Sem.run_bind, Sem.run_pure, Result.andThen_ok, run_loadVar_row (W i) g t ty cs (0, 0) d (hr i) hu hd hi]
  exact ⟨rfl, rfl⟩

theorem q_load_grow {ι : Type} {W : ι → World} {Q : Act → Prop} {rest : List Oper} {o : Oper} {a : Act} (ty : TypeId) (x : Operand) (ho : o.op = .load ty x) (hgd : o.guard = none)
    (g : Nat) (hx : a.eval x = .pointer (some ⟨g, 0, none⟩)) (cs : Array Value) (d : TypeDesc) (hr : ∀ i, GRow (W i) g cs)
    (hu : P.underlying ty = some d) (hd : (match d with | .struct _ | .array _ _ => true | _ => false) = true) (hi : (P.info? ty).map (·.size) = some cs.size)
    (h : wpQuiet P ops (fun w' => ∃ i, w' = W i) Q rest (a.put o.dst (.agg cs))) : wpQuiet P ops (fun w' => ∃ i, w' = W i) Q (o :: rest) a := by
  unfold wpQuiet
  simp only [Region.wanted, hgd, if_true]
  refine ⟨.agg cs, fun w hw => ?_, h⟩
  obtain ⟨i, rfl⟩ := hw
  obtain ⟨t, fr, hri⟩ := hr i
  unfold Oper.quietAt execOp
  simp only [ho, hx, Instr.loadAt, Instr.sureAddr, Sem.run_bind, Sem.run_pure, Result.andThen_ok, run_loadVar_row (W i) g t ty cs fr d hri hu hd hi]
  exact ⟨rfl, rfl⟩

/-- For the prover: 'refine region_tail n .. ?_; apply Exists.intro; refine ⟨fun ι _ W hb hc => ?_, fun w' hw' => ?_⟩'. -/
theorem region_tail {id : Nat} {Q : Exit → Act → World → Prop} {a : Act} {w : World} {l : List Oper} (n : Nat) (hm : P.follows .mixedOrders = true) (hB : mildTailB l.toArray n = true) (hD : dstsB (l.take n) a.tmps.size = true)
    (h : ∃ a1, (∀ (ι : Type) [Nonempty ι] (W : ι → World), (∀ i, Below w.heap.size w (W i)) → (∀ i w', Below (W i).heap.size (W i) w' → ∃ j, w' = W j) → wpQuiet P l.toArray (fun w' => ∃ i, w' = W i) (fun a' => a' = a1) (l.take n) a) ∧
      ∀ w', Below w.heap.size w w' → wpList P l.toArray Q (l.drop n) a1 w') : (Code.region id l.toArray true).wp P Q a w :=
  let ⟨_, h1, h2⟩ := h
  wp_region_mild_tail n hm hB (mild_of_family _ _ hD h1) h2

theorem region_alloc {id : Nat} {Q : Exit → Act → World → Prop} {a : Act} {w : World} {l : List Oper} (p : Nat) (T : TypeId) (z : Array Value) (d : Tmp) (hm : P.follows .mixedOrders = true) (hB : mildAllocB l.toArray p = true)
    (hd : (l.toArray[p]?).bind (·.dst) = some d) (hD : dstsB (l.take p) a.tmps.size = true)
    (hrun : ∀ (a : Act) (w : World), ∀ o, l.toArray[p]? = some o → (execOp a.eval o).run P w = .ok (.value (.pointer (some ⟨w.heap.size, 0, none⟩))) (w.alloc (.cells z T)))
    (h : ∃ a1, (∀ (ι : Type) [Nonempty ι] (W : ι → World), (∀ i, Below w.heap.size w (W i)) → (∀ i w', Below (W i).heap.size (W i) w' → ∃ j, w' = W j) → wpQuiet P l.toArray (fun w' => ∃ i, w' = W i) (fun a' => a' = a1) (l.take p) a) ∧
      ∀ b w', w.heap.size ≤ b → Below w.heap.size w w' → Row w' b T z → wpList P l.toArray Q (l.drop (p + 1)) (a1.put (some d) (.pointer (some ⟨b, 0, none⟩))) w') : (Code.region id l.toArray true).wp P Q a w :=
  let ⟨_, h1, h2⟩ := h
  wp_region_mild_alloc p T z d hm hB hd hrun (mild_of_family _ _ hD h1) h2

end Go.Proofs.Ytcdmjjlbeifgjaa
