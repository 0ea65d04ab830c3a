/- append of a text, and of noughts, onto bytes of one's own. No condition but the bound on the whole. -/
import Derived.Test.YtgcffdnbihfghaaClaims9
import Derived.Test.YtgcffdnbihfghaaEncD
import Derived.Lib.AppendStr
import Derived.Lib.AppendZerosOnto
namespace Go.Proofs.Ytgcffdnbihfghaa
open Go Go.RowKit
theorem bNum_cells (s : ByteArray) : (bNum s).map (Value.int .u8) = Lib.strCells s := by simp [bNum, Lib.strCells]
theorem grown_below {B : Nat} {w w' : World} {v : Value} {e : TypeId} {l : List Int} (hown : Own8 w B e v l) (hg : w.grownBy w' v.ownBlock) (hB : B ≤ w.heap.size) : Below B w w' :=
  (Below.refl B w).grown hg hB fun k hk => by
    obtain ⟨_, hr⟩ := hown
    rcases hr with ⟨rfl, _⟩ | ⟨g, cap, cur, rfl, hg, _⟩
    · cases hk
    · cases hk; exact hg
theorem wp8s {P : Program} {w : World} {o : Oper} {a : Act} {K : Act → World → Prop} {Q : Exit → Act → World → Prop} (s x : Operand) (t u e : TypeId)
    (ho : o.op = .call { callee := .builtin .append, args := #[s, x], argTypes := #[t, u] })
    (B : Nat) (ht : P.underlying t = some (.slice e)) (hu : P.underlying u = some .string) (hinfo : (P.info? e).map (fun i => (i.zero, i.size, i.bytes)) = some (some (.int .u8 0), 1, 1))
    (v : Value) (l : List Int) (hs : a.eval s = v) (hown : Own8 w B e v l) (S : ByteArray) (hx : a.eval x = .string S)
    (hlen : l.length + S.size ≤ 70368744177664) (hB : B ≤ w.heap.size)
    (h : ∀ sp' cap' w', Own8 w' B e (.slice sp' (l ++ bNum S).length cap') (l ++ bNum S) → Below B w w' → w.grownBy w' v.ownBlock → K (a.put o.dst (.slice sp' (l ++ bNum S).length cap')) w') : Oper.wp P o a w K Q := by
  obtain ⟨i, hi, hz, h1, h2⟩ : ∃ i, P.info? e = some i ∧ i.zero = some (.int .u8 0) ∧ i.size = 1 ∧ i.bytes = 1 := by
    cases hq : P.info? e with
    | none => simp [hq] at hinfo
    | some i => simp [hq] at hinfo; exact ⟨i, rfl, hinfo.1, hinfo.2.1, hinfo.2.2⟩
  obtain ⟨v', w', hr, h2, h3, _⟩ := Lib.run_append_own_string (P := P) w B t u o.type e i ht hu hi hz h1 h2 v l.length (l.map (Value.int .u8)) hown S (by unfold maxLen; omega) (by omega) hB
  have hO : Own8 w' B e v' (l ++ bNum S) := by
    unfold Own8
    rw [List.length_append, List.map_append, bNum_cells, bNum_len]; exact h2
  obtain ⟨sp', cap', rfl⟩ := hO.form
  unfold Oper.wp execOp
  simp only [ho, resolve, invoke, builtin, Sem.run_bind, Sem.run_pure, Result.andThen_ok, List.map_toArray, List.map_cons, List.map_nil, hs, hx, hr]
  exact h sp' cap' w' hO (grown_below hown h3 hB) h3
theorem zeroCells_toList (k : Nat) : (Builtin.zeroCells (Value.int .u8 0).cells k).toList = List.replicate k (Value.int .u8 0) := by
  apply List.ext_getElem
  · simp [size_zeroCells, Value.cells]
  · intro j h1 h2
    simp [Builtin.zeroCells, Value.cells, Nat.mod_one]
theorem run_append_room_zeros {P : Program} (w : World) (t tn ty e : TypeId) (i : TypeInfo) (kq kn : IntKind) (ht : P.underlying t = some (.slice e)) (htn : P.underlying tn = some (.int kn)) (hi : P.info? e = some i) (hz : i.zero = some (.int .u8 0)) (hs1 : i.size = 1) (hb1 : i.bytes = 1)
    (g sLen sCap : Nat) (cur : Array Value) (hg : w.heap[g]? = some (.cells cur e (0, 0))) (k : Nat) (h0 : 0 < k) (h48 : k ≤ 281474976710656) (hroom : sLen + k ≤ sCap) (hfit : sLen + k ≤ cur.size) :
    (Builtin.append_ #[t, tn] ty #[.slice (some ⟨g, 0, none⟩) sLen sCap, .int kq k]).run P w =
      .ok (.slice (some ⟨g, 0, none⟩) (sLen + k) sCap) (w.setRow g (cur.toList.take sLen ++ List.replicate k (Value.int .u8 0) ++ cur.toList.drop (sLen + k)).toArray) := by
  have hk : k ≠ 0 := by omega
  have hw : IntKind.i64.wrap (k : Int) = k := by rw [IntKind.wrap_i64]; omega
  have hneg : ¬ ((k : Int) < 0) := by omega
  have h48i : ¬ (281474976710656 < (k : Int)) := by omega
  have hst := run_storeCells_at P g sLen e (List.replicate k (Value.int .u8 0)) 0 cur w hg (by simpa using hfit) (fun u hu => by rw [List.eq_of_mem_replicate hu]; rfl)
  simp only [Nat.add_zero, List.length_replicate] at hst
  simp [Builtin.append_, run_underlying ht, run_underlying htn, sizeOf, typeInfo, zeroValue, hi, hz, hs1, hb1, asInt, asIntOf, hw, hneg, hk, h48i, hroom, zeroCells_toList, Addr.add_lit, hst]
theorem wp8z {P : Program} {w : World} {o : Oper} {a : Act} {K : Act → World → Prop} {Q : Exit → Act → World → Prop} (s x : Operand) (t tn e : TypeId)
    (ho : o.op = .call { callee := .builtin .append, args := #[s, x], argTypes := #[t, tn] })
    (B : Nat) (ht : P.underlying t = some (.slice e)) (htn : P.underlying tn = some (.int .i64)) (hinfo : (P.info? e).map (fun i => (i.zero, i.size, i.bytes)) = some (some (.int .u8 0), 1, 1))
    (l : List Int) (sp : Option Addr) (n cap : Nat) (hs : a.eval s = .slice sp n cap) (hown : Own8 w B e (.slice sp n cap) l) (hp : 0 < l.length) (k : Nat) (hx : a.eval x = .int .i64 (k : Int)) (hk : 0 < k)
    (hlen : l.length + k ≤ 70368744177664) (hB : B ≤ w.heap.size)
    (h : ∀ sp' cap' w', Own8 w' B e (.slice sp' (l ++ List.replicate k 0).length cap') (l ++ List.replicate k 0) → Below B w w' → w.grownBy w' (Value.slice sp n cap).ownBlock → K (a.put o.dst (.slice sp' (l ++ List.replicate k 0).length cap')) w') : Oper.wp P o a w K Q := by
  obtain ⟨i, hi, hz, h1, h2⟩ : ∃ i, P.info? e = some i ∧ i.zero = some (.int .u8 0) ∧ i.size = 1 ∧ i.bytes = 1 := by
    cases hq : P.info? e with
    | none => simp [hq] at hinfo
    | some i => simp [hq] at hinfo; exact ⟨i, rfl, hinfo.1, hinfo.2.1, hinfo.2.2⟩
  have hown0 := hown
  have hcells := fun g => World.ownsRow.cells (g := g) hown
  obtain ⟨hl, hr⟩ := hown
  have hll : (l ++ List.replicate k (0 : Int)).length = l.length + k := by simp
  have hmap : (l ++ List.replicate k (0 : Int)).map (Value.int .u8) = l.map (Value.int .u8) ++ List.replicate k (Value.int .u8 0) := by simp
  rcases hr with ⟨_, h0⟩ | ⟨g, cap', cur, hv, hg, hh, hn, hc, hsz, htk⟩
  · omega
  · injection hv with e1 e2 e3
    subst e1; subst e2; subst e3
    have hcs : cur.size = cap := by simpa using hsz
    have key : ∀ sp' cap' w', (Builtin.append_ #[t, tn] o.type #[.slice (some ⟨g, 0, none⟩) l.length cap, .int .i64 (k : Int)]).run P w = .ok (.slice sp' (l.length + k) cap') w' →
        Own8 w' B e (.slice sp' (l.length + k) cap') (l ++ List.replicate k 0) → w.grownBy w' (Value.slice (some ⟨g, 0, none⟩) l.length cap).ownBlock → Oper.wp P o a w K Q := fun sp' cap' w' hrun hO hb => by
      unfold Oper.wp execOp
      simp only [ho, resolve, invoke, builtin, Sem.run_bind, Sem.run_pure, Result.andThen_ok, List.map_toArray, List.map_cons, List.map_nil, hs, hx, hrun]
      have := h sp' cap' w' (by rw [hll]; exact hO) (grown_below hown0 hb hB) hb
      rw [hll] at this
      exact this
    by_cases hroom : l.length + k ≤ cap
    · refine key _ _ _ (run_append_room_zeros w t tn o.type e i .i64 .i64 ht htn hi hz h1 h2 g l.length cap cur hh k hk (by omega) hroom (by omega)) ?_ ⟨rfl, rfl, rfl, by simp, fun k _ hk => setRow_other w g k _ (fun e => hk (by simp [Value.ownBlock, e]))⟩
      refine ⟨by simp, .inr ⟨g, cap, _, by rw [hll], hg, setRow_heap w g cur _ e _ hh, by rw [hll]; exact hroom, hc, ?_, ?_⟩⟩
      · simp only [List.size_toArray, List.length_append, List.length_take, List.length_drop, Array.length_toList, List.length_replicate]
        omega
      · have ht' : cur.toList.take l.length = l.map (Value.int .u8) := by simpa using htk
        rw [ht', hmap]
        rw [show (l ++ List.replicate k (0 : Int)).length * 1 = (l.map (Value.int .u8) ++ List.replicate k (Value.int .u8 0)).length by simp]
        exact List.take_left
    · have hholds : (Builtin.firstCells i.size l.length (.slice (some ⟨g, 0, none⟩) l.length cap)).run P w.drew = .ok (l.map (Value.int .u8)).toArray w.drew :=
        run_firstCells_some (P := P) w.drew i.size l.length ⟨g, 0, none⟩ l.length cap (l.map (Value.int .u8)) (by rw [h1]; simp) (by simpa using hcells g rfl)
      have hge := grownCap_ge w (l.length + k) cap e
      have hcm : grownCap w (l.length + k) cap e ≤ maxLen := grownCap_le_maxLen w (l.length + k) cap e (by unfold maxLen; omega)
      refine key _ _ _ (Lib.run_append_grow_zeros w t tn o.type e i (.int .u8 0) .i64 .i64 ht htn hi hz _ l.length cap (l.map (Value.int .u8)) hholds k hk (by omega) (by omega) (by omega) (by rw [h2]; omega) (by rw [h2]; exact growslice_fits (by omega) (by omega))) ?_ ⟨rfl, rfl, rfl, by simp, fun k hk _ => heap_alloc_old w.drew _ hk⟩
      refine ⟨by simp, .inr ⟨w.heap.size, _, _, by rw [hll], hB, heap_alloc_new w.drew _, by rw [hll]; exact hge, hcm, ?_, ?_⟩⟩
      · have hz1 : (Value.int IntKind.u8 0).cells.size = 1 := rfl
        simp only [Array.size_append, List.size_toArray, size_zeroCells, hz1, List.length_map]
        omega
      · simp only [Array.toList_append, zeroCells_toList, ← hmap]
        rw [show (l ++ List.replicate k (0 : Int)).length * 1 = ((l ++ List.replicate k (0 : Int)).map (Value.int .u8)).length by simp, hmap]
        exact List.take_left
end Go.Proofs.Ytgcffdnbihfghaa
