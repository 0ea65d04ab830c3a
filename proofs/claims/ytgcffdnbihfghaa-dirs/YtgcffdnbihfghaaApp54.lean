/- A call's own rows of entries: append of one. -/
import Derived.Test.YtgcffdnbihfghaaEntry
import Derived.Test.YtgcffdnbihfghaaRPInner
namespace Go.Proofs.Ytgcffdnbihfghaa
open Go Go.RowKit
def flatE (E : List Ent) : List Value := E.flatMap ec
/-- The slice v of entries is the call's own, from block B on. -/
def OwnE (w : World) (B : Nat) (v : Value) (n : Nat) (E : List Ent) : Prop := w.ownsRow B 54 33 v n (flatE E)
theorem ownE_form {w : World} {B : Nat} {v : Value} {n : Nat} {E : List Ent} (h : OwnE w B v n E) : ∃ sp cap, v = .slice sp n cap ∧ n ≤ cap := by
  obtain ⟨_, h⟩ := h
  rcases h with ⟨rfl, h0⟩ | ⟨g, cap, cur, rfl, _, _, hn, _⟩
  · exact ⟨none, 0, by rw [h0], by omega⟩
  · exact ⟨_, _, rfl, hn⟩
theorem ownE_none (w : World) (B : Nat) : OwnE w B (.slice none 0 0) 0 [] := ⟨rfl, .inl ⟨rfl, rfl⟩⟩
theorem flatE_len : ∀ {E : List Ent}, EntsOk E → (flatE E).length = E.length * 33
  | [], _ => rfl
  | e :: t, h => by
    have h1 := ec_len (h e (by simp)).1
    have h2 := flatE_len (E := t) (fun x hx => h x (by simp [hx]))
    simp only [flatE, List.flatMap_cons, List.length_append, List.length_cons] at *
    omega
theorem flatE_at : ∀ {E : List Ent} {i : Nat} {e : Ent} {j : Nat} {v : Value}, EntsOk E → E[i]? = some e → (ec e)[j]? = some v → (flatE E)[i * 33 + j]? = some v
  | [], i, e, j, v, _, h, _ => by simp at h
  | x :: t, 0, e, j, v, hok, h, hj => by
    simp at h; subst h
    simp only [flatE, List.flatMap_cons, Nat.zero_mul, Nat.zero_add]
    rw [List.getElem?_append_left (by exact (List.getElem?_eq_some_iff.1 hj).1)]; exact hj
  | x :: t, i + 1, e, j, v, hok, h, hj => by
    have h1 := ec_len (hok x (by simp)).1
    have h2 := flatE_at (E := t) (i := i) (fun y hy => hok y (by simp [hy])) (by simpa using h) hj
    simp only [flatE, List.flatMap_cons] at *
    rw [List.getElem?_append_right (by omega), show (i + 1) * 33 + j - (ec x).length = i * 33 + j by omega]; exact h2
theorem OwnE.ents {w : World} {B n m cap : Nat} {sp : Option Addr} {E : List Ent} (h : OwnE w B (.slice sp m cap) n E) (hok : EntsOk E) : Ents w sp E := fun hp => by
  obtain ⟨hl, h⟩ := h
  have hfl := flatE_len hok
  rcases h with ⟨_, h0⟩ | ⟨g, cap', cur, hv, hg, hh, hn, hc, hs, ht⟩
  · omega
  · injection hv with e1 e2 e3
    subst e1
    refine ⟨g, 0, rfl, fun i e hi j v hj => ?_⟩
    have h1 := flatE_at hok hi hj
    have hlt : i * 33 + j < n * 33 := by have := (List.getElem?_eq_some_iff.1 h1).1; omega
    rw [← ht, List.getElem?_take_of_lt hlt] at h1
    rw [show 0 + i * 33 + j = i * 33 + j by omega, cell_of_row w g _ cur 54 (0, 0) hh]
    simpa using h1
theorem OwnE.below {w w' : World} {B B' n : Nat} {v : Value} {E : List Ent} (h : OwnE w B v n E) (hb : Below B' w w') (hB : w.heap.size ≤ B') : OwnE w' B v n E := by
  obtain ⟨hl, h⟩ := h
  refine ⟨hl, ?_⟩
  rcases h with h | ⟨g, cap', cur, hv, hg, hh, r⟩
  · exact .inl h
  · refine .inr ⟨g, cap', cur, hv, hg, ?_, r⟩
    have hlt : g < w.heap.size := Row.lt (t := 54) (vs := cur) hh
    rw [hb.block g (by omega)]; exact hh
theorem fill54 (S : ByteArray) (f : Nat → Int) : Instr.fill (fun i => some (i * 33, 33)) ((Array.range 33).map ((en zE)[· % 33]!)) [(0, .agg (en ⟨S, (List.range 32).map f⟩))] = some (en ⟨S, (List.range 32).map f⟩) := by kernel_rfl
theorem run_bs54 (e : Ent) (he : e.node.length = 32) (w : World) : (Instr.buildSlice 51 1 #[(0, .agg (en e))]).run Try.prog w = .ok (.slice (some ⟨w.heap.size, 0, none⟩) 1 1) (w.alloc (.cells (en e) 54)) := by
  obtain ⟨i, hi, hz, h1⟩ : ∃ i, Try.prog.info? 54 = some i ∧ i.zero = some (.agg (en zE)) ∧ i.size = 33 := by
    have hinfo : (Try.prog.info? 54).map (fun i => (i.zero, i.size)) = some (some (.agg (en zE)), 33) := by kernel_rfl
    cases hq : Try.prog.info? 54 with
    | none => simp [hq] at hinfo
    | some i => simp [hq] at hinfo; exact ⟨i, rfl, hinfo.1, hinfo.2⟩
  refine run_buildSlice w 51 54 1 #[(0, .agg (en e))] (en e) i _ Try.underlying51 hi hz (by rw [h1]; decide) (by rw [h1]; decide) ?_
  obtain ⟨S, N⟩ := e
  rw [h1, list_map N 32 he]
  exact fill54 S (gi N)
theorem bs54 {w : World} {ops : Array Oper} {rest : List Oper} {o : Oper} {a : Act} {Q : Exit → Act → World → Prop} (x : Operand) (ho : o.op = .buildSlice 51 1 #[(0, x)]) (hgd : o.guard = none) (e : Ent) (hx : a.eval x = .agg (en e)) (he : e.node.length = 32)
    (h : wpList Try.prog ops Q rest (a.put o.dst (.slice (some ⟨w.heap.size, 0, none⟩) 1 1)) (w.alloc (.cells (en e) 54))) : wpList Try.prog ops Q (o :: rest) a w := by
  refine wpList_plain hgd fun _ hK => ?_
  have hr := run_bs54 e he w
  unfold Oper.wp execOp
  simp only [ho, List.map_toArray, List.map_cons, List.map_nil, hx, Sem.run_bind, hr, Result.andThen_ok]
  exact hK _ _ h
theorem append54 {w : World} {ops : Array Oper} {rest : List Oper} {o : Oper} {a : Act} {Q : Exit → Act → World → Prop} (s x : Operand)
    (ho : o.op = .call { callee := .builtin .append, args := #[s, x], argTypes := #[51, 51] }) (hgd : o.guard = none)
    (B : Nat) (v : Value) (n : Nat) (E : List Ent) (hs : a.eval s = v) (hown : OwnE w B v n E) (g : Nat) (e : Ent) (hx : a.eval x = .slice (some ⟨g, 0, none⟩) 1 1) (he : e.node.length = 32) (hby : Row w g 54 (en e))
    (hn : n ≤ 100000) (hB : B ≤ w.heap.size)
    (h : ∀ sp' cap' w', OwnE w' B (.slice sp' (n + 1) cap') (n + 1) (E ++ [e]) → Below B w w' → wpList Try.prog ops Q rest (a.put o.dst (.slice sp' (n + 1) cap')) w') : wpList Try.prog ops Q (o :: rest) a w := by
  obtain ⟨i, hi, hz, h1, h2⟩ : ∃ i, Try.prog.info? 54 = some i ∧ i.zero = some (.agg (en zE)) ∧ i.size = 33 ∧ i.bytes = 48 := by
    have hinfo : (Try.prog.info? 54).map (fun i => (i.zero, i.size, i.bytes)) = some (some (.agg (en zE)), 33, 48) := by kernel_rfl
    cases hq : Try.prog.info? 54 with
    | none => simp [hq] at hinfo
    | some i => simp [hq] at hinfo; exact ⟨i, rfl, hinfo.1, hinfo.2.1, hinfo.2.2⟩
  have hblk : ∀ k, v.ownBlock = some k → B ≤ k := fun k hk => by
    obtain ⟨_, hr⟩ := hown
    rcases hr with ⟨rfl, _⟩ | ⟨g, cap, cur, rfl, hg, _⟩
    · cases hk
    · cases hk; exact hg
  refine wpList_append_own w hgd s x 51 ho B 54 i (.agg (en zE)) 33 48 Try.underlying51 hi hz h1 h2 rfl (by decide) v n (flatE E) hs hown ⟨g, 0, none⟩ 1 1 (ec e) hx (by simp [ec_len he]) (fun j u hu => ?_) (fun u hu => ?_) (by unfold maxLen; omega) (by omega) hB (fun v' w' h2 h3 _ => ?_)
  · rw [Addr.add_mid, Nat.zero_add, hby.cell]; simpa [en] using hu
  · have := en_one e
    rw [Array.all_eq_true'] at this
    exact this u (by simpa [en] using hu)
  · have hO : OwnE w' B v' (n + 1) (E ++ [e]) := by unfold OwnE flatE; rw [List.flatMap_append]; simpa [flatE] using h2
    obtain ⟨sp', cap', rfl, _⟩ := ownE_form hO
    exact h sp' cap' w' hO ((Below.refl B w).grown h3 hB hblk)
end Go.Proofs.Ytgcffdnbihfghaa
