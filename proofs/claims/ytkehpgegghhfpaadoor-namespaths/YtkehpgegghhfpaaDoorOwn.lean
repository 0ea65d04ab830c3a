/- A list of texts of one's own, and append on it, guarded or not. No condition. -/
import Derived.Test.YtkehpgegghhfpaaDoorRsplit
namespace Go.Proofs.YtkehpgegghhfpaaDoor
open Go.RowKit

/-- The slice v is one's own (no block of it below B) and holds the texts ds. -/
def Own (w : World) (B : Nat) (v : Value) (ds : List ByteArray) : Prop := w.ownsRow B 9 1 v ds.length (ds.map Value.string)
theorem Own.nil (w : World) (B : Nat) : Own w B (.slice none 0 0) [] := World.ownsRow_nil _ _ _ _
theorem Own.alloc {w : World} {B : Nat} {v : Value} {ds : List ByteArray} (h : Own w B v ds) (o : Obj) : Own (w.alloc o) B v ds := World.ownsRow.alloc h o
theorem Own.drewN {w : World} {B : Nat} {v : Value} {ds : List ByteArray} (h : Own w B v ds) (n : Nat) : Own (w.drewN n) B v ds := h
theorem Own.new (w : World) (B : Nat) (ds : List ByteArray) (cs : Array Value) (hc : cs.toList = ds.map Value.string) (hB : B ≤ w.heap.size) (hl : ds.length ≤ maxLen) : Own (w.alloc (.cells cs 9)) B (.slice (some ⟨w.heap.size, 0, none⟩) ds.length ds.length) ds := by
  have hs : cs.size = ds.length * 1 := by rw [← Array.length_toList, hc]; simp
  have := World.ownsRow_lit (base := B) (e := 9) (size := 1) w cs ds.length hB hl hs
  rw [hc] at this; exact this
theorem Own.below {w w' : World} {B : Nat} {v : Value} {ds : List ByteArray} (h : Own w B v ds) (hb : Below w.heap.size w w') : Own w' B v ds := by
  obtain ⟨h1, h2⟩ := h
  refine ⟨h1, ?_⟩
  rcases h2 with h2 | ⟨g, cap, cur, hv, hg, hh, hn, hm, hc, ht⟩
  · exact .inl h2
  · have hlt : g < w.heap.size := Row.lt (t := 9) (vs := cur) hh
    exact .inr ⟨g, cap, cur, hv, hg, by rw [hb.block g hlt]; exact hh, hn, hm, hc, ht⟩
theorem Own.strs {w : World} {B : Nat} {v : Value} {ds : List ByteArray} (h : Own w B v ds) : ∃ p c, v = .slice p ds.length c ∧ Strs w p ds ∧ ds.length ≤ c := strs_of_own h rfl
theorem wpList_taken {P : Program} {ops : Array Oper} {Q : Exit → Act → World → Prop} {a : Act} {w : World} {rest : List Oper} {o : Oper} (hw : Region.wanted o (yielded ops a.tmps) = true)
    (h : ∀ K : Act → World → Prop, (∀ a w, wpList P ops Q rest a w → K a w) → o.wp P a w K Q) : wpList P ops Q (o :: rest) a w :=
  wpList_step fun K hK => by rw [if_pos hw]; exact h K hK
/-- append of one list of one's own onto another. -/
theorem app_own {ops : Array Oper} {rest : List Oper} {o : Oper} {a : Act} {Q : Exit → Act → World → Prop} {w : World} (hw : Region.wanted o (yielded ops a.tmps) = true) (s x : Operand)
    (ho : o.op = .call { callee := .builtin .append, args := #[s, x], argTypes := #[31, 31] }) (B B2 : Nat) (hB : B ≤ w.heap.size) (v v2 : Value) (ds ys : List ByteArray) (hs : a.eval s = v) (hx : a.eval x = v2)
    (h1 : Own w B v ds) (h2 : Own w B2 v2 ys) (hl : ds.length + ys.length ≤ 4294967296)
    (h : ∀ v' w', Own w' B v' (ds ++ ys) → w.grownBy w' v.ownBlock → wpList Tryd.prog ops Q rest (a.put o.dst v') w') : wpList Tryd.prog ops Q (o :: rest) a w := by
  obtain ⟨i9, j1, j2, j3, j4⟩ := info_parts info9
  refine wpList_taken hw fun K hK => ?_
  rcases h2.2 with ⟨rfl, hy0⟩ | ⟨g, cap, cur, rfl, hg, hh, hn, hm, hc, ht⟩
  · have hy : ys = [] := List.eq_nil_of_length_eq_zero hy0
    subst hy
    have hrun := run_append_owned_none (P := Tryd.prog) (w := w) B 31 o.type 9 i9 1 Tryd.underlying31 j1 v ds.length _ h1
    unfold Oper.wp
    simp [execOp, ho, resolve, invoke, builtin, hs, hx, hrun, Result.andThen]
    exact hK _ _ (h v w (by rw [List.append_nil]; exact h1) ⟨rfl, rfl, rfl, Nat.le_refl _, fun _ _ _ => rfl⟩)
  · refine wp_append_own w s x 31 ho B 9 i9 (.string ⟨#[]⟩) 1 16 Tryd.underlying31 j1 j2 j3 j4 rfl (by decide) v ds.length _ hs h1 ⟨g, 0, none⟩ ys.length cap (ys.map Value.string) hx (by simp) (fun j u hj => ?_) (fun u hu => ?_) (by unfold maxLen; omega) (by omega) hB fun v' w' o1 o2 _ => hK _ _ (h v' w' (by simpa [Own] using o1) o2)
    · exact World.ownsRow.cells h2 rfl j u hj
    · obtain ⟨b, _, rfl⟩ := List.mem_map.1 hu
      rfl
end Go.Proofs.YtkehpgegghhfpaaDoor
