/- Rows of ids: whether two are the same; append of one; ends. No old memory turns. -/
import Derived.Test.YtgcffdnbihfghaaRInner
namespace Go.Proofs.Ytgcffdnbihfghaa
open Go Go.RowKit
set_option maxRecDepth 20000 in
set_option maxHeartbeats 1000000 in
theorem ends_any (sp : Option Addr) (len cap : Nat) (size : Int) (w : World) (_hl : len ≤ 1000000) (_h0 : 0 ≤ size) (_h1 : size ≤ 1000000) :
    Calls Try.prog 39 #[.slice sp len cap, .int .i64 size] w fun e w' => e = .returned (.int .i64 (if (len : Int) < size then 8 else if size < (len : Int) then 9 else 0)) ∧ w' = w := by
  by_cases h2 : (len : Int) < size
  · rw [if_pos h2]
    go_enter Try.func39, Try.ntmps39
    go_wp2
    go_ret
    exact ⟨rfl, rfl⟩
  · rw [if_neg h2]
    by_cases h3 : size < (len : Int)
    · rw [if_pos h3]
      go_enter Try.func39, Try.ntmps39
      go_wp2
      go_ret
      exact ⟨rfl, rfl⟩
    · rw [if_neg h3]
      go_enter Try.func39, Try.ntmps39
      go_wp2
      go_ret
      exact ⟨rfl, rfl⟩
set_option maxRecDepth 20000 in
set_option maxHeartbeats 1000000 in
theorem ids_any (F : List Int) (n : Nat) (pa pb : Option Addr) (ca cb : Nat) (w : World) (hF : F.length = 32 * n) (hn : n ≤ 1000000) (ha : Bytes w pa F) (hb : Bytes w pb F) :
    Calls Try.prog 20 #[.slice pa n ca, .slice pb n cb] w fun e w' => e = .returned (.bool true) ∧ Below w.heap.size w w' := by
  go_enter Try.func20, Try.ntmps20
  go_wp2
  go_loopw [5] (fun i wr => ∃ j : Nat, j ≤ n ∧ i = .int .i64 j ∧ Below w.heap.size w wr) (fun i _ => n - (intOf i).toNat)
  case atStart => exact ⟨0, by omega, rfl, Below.refl _ _⟩
  case round =>
    obtain ⟨j, hj, rfl, b1⟩ := hrel
    by_cases hjn : j < n
    · obtain ⟨ba, oa, rfl, _⟩ := ha (by omega)
      obtain ⟨bb, ob, rfl, _⟩ := hb (by omega)
      have hcl := cutF_len hF hjn
      have ra : ∀ k, (wr.drewN k).rangeAt ba (oa + j * 32) (v8 (cutF F j)).toList := fun k => rangeF (ha.below (below_drewN b1 k)) hF hjn
      have rb : ∀ k, (wr.drewN k).rangeAt bb (ob + j * 32) (v8 (cutF F j)).toList := fun k => rangeF (hb.below (below_drewN b1 k)) hF hjn
      have hi23c : (Try.prog.info? 23).map (·.size) = some (v8 (cutF F j)).toList.length := by rw [Array.length_toList, v8_size, hcl]; kernel_rfl
      have heq : ∀ wx, (Op.equalIn 10000 23 (.agg (v8 (cutF F j))) (.agg (v8 (cutF F j)))).run Try.prog wx = .ok true wx := fun wx => by
        have := run_eq_array (P := Try.prog) wx 9998 23 5 32 (cutF F j) (cutF F j) Try.underlying23 Try.underlying5 (by kernel_rfl) hcl hcl
        rwa [decide_eq_true rfl] at this
      generalize cutF F j = C at *
      have hto : (v8 C).toList.toArray = v8 C := by simp
      clear ha hb
      go_upto_region 6 with fail
      refine wp_region_quiet_lit (by kernel_rfl) (by kernel_rfl) ?_
      iterate 3 (go_big_quiet_step (fail))
      refine q_load_mid 23 (.tmp 19) (by rfl) (by rfl) ba (oa + j * 32) (by rfl) (v8 C).toList _ ra Try.underlying23 rfl hi23c ?_
      rw [hto]
      simp only [Act.put, List.setIfInBounds_toArray, List.set_cons_succ, List.set_cons_zero]
      iterate 3 (go_big_quiet_step (fail))
      refine q_load_mid 23 (.tmp 23) (by rfl) (by rfl) bb (ob + j * 32) (by rfl) (v8 C).toList _ rb Try.underlying23 rfl hi23c ?_
      rw [hto]
      simp only [Act.put, List.setIfInBounds_toArray, List.set_cons_succ, List.set_cons_zero]
      repeat (go_big_quiet_step (fail))
      refine wpQuiet_nil ?_
      rintro _ ⟨nq, rfl⟩
      have b2 := below_drewN b1 nq
      clear ra rb b1
      generalize wr.drewN nq = w2 at *
      go_wp2
      go_roundw
      case rel => exact ⟨j + 1, by omega, by go_num, b2⟩
      case measure => simp [intOf]; omega
    · obtain rfl : j = n := by omega
      go_wp2
      go_ret
      exact ⟨rfl, b1⟩
/-- The slice v of ids is the call's own, from block B on. -/
def OwnF (w : World) (B : Nat) (v : Value) (n : Nat) (F : List Int) : Prop := w.ownsRow B 23 32 v n (F.map (Value.int .u8))
theorem ownF_form {w : World} {B n : Nat} {v : Value} {F : List Int} (h : OwnF w B v n F) : ∃ sp cap, v = .slice sp n cap := by
  obtain ⟨_, h⟩ := h
  rcases h with ⟨rfl, h0⟩ | ⟨g, cap, cur, rfl, _⟩
  · exact ⟨none, 0, by rw [h0]⟩
  · exact ⟨_, _, rfl⟩
theorem ownF_none (w : World) (B : Nat) : OwnF w B (.slice none 0 0) 0 [] := ⟨rfl, .inl ⟨rfl, rfl⟩⟩
theorem OwnF.bytes {w : World} {B n m cap : Nat} {sp : Option Addr} {F : List Int} (h : OwnF w B (.slice sp m cap) n F) : Bytes w sp F := fun hp => by
  obtain ⟨hl, h⟩ := h
  rcases h with ⟨_, h0⟩ | ⟨g, cap', cur, hv, hg, hh, hn, hc, hs, ht⟩
  · rw [h0] at hl
    simp at hl
    rw [hl] at hp
    simp at hp
  · injection hv with e1 e2 e3
    subst e1
    refine ⟨g, 0, rfl, fun j hj => ?_⟩
    rw [Nat.zero_add, cell_of_row w g j cur 23 (0, 0) hh]
    have h1 : (F.map (Value.int .u8))[j]? = some (.int .u8 (gi F j)) := by simp [gi, hj]
    rw [← ht, List.getElem?_take_of_lt (by simp at hl; omega)] at h1
    simpa using h1
theorem OwnF.below {w w' : World} {B B' n : Nat} {v : Value} {F : List Int} (h : OwnF w B v n F) (hb : Below B' w w') (hB : w.heap.size ≤ B') : OwnF w' B v n F := by
  obtain ⟨hl, h⟩ := h
  refine ⟨hl, ?_⟩
  rcases h with h | ⟨g, cap', cur, hv, hg, hh, r⟩
  · exact .inl h
  · refine .inr ⟨g, cap', cur, hv, hg, ?_, r⟩
    have hlt : g < w.heap.size := Row.lt (t := 23) (vs := cur) hh
    rw [hb.block g (by omega)]; exact hh
theorem append23 {w : World} {ops : Array Oper} {rest : List Oper} {o : Oper} {a : Act} {Q : Exit → Act → World → Prop} (s x : Operand)
    (ho : o.op = .call { callee := .builtin .append, args := #[s, x], argTypes := #[42, 42] }) (hgd : o.guard = none)
    (B : Nat) (v : Value) (n : Nat) (F : List Int) (hs : a.eval s = v) (hown : OwnF w B v n F) (g : Nat) (C : List Int) (hx : a.eval x = .slice (some ⟨g, 0, none⟩) 1 1) (hC : C.length = 32) (hby : Bytes w (some ⟨g, 0, none⟩) C)
    (hn : n ≤ 1000) (hB : B ≤ w.heap.size)
    (h : ∀ sp' cap' w', OwnF w' B (.slice sp' (n + 1) cap') (n + 1) (F ++ C) → Below B w w' → wpList Try.prog ops Q rest (a.put o.dst (.slice sp' (n + 1) cap')) w') : wpList Try.prog ops Q (o :: rest) a w := by
  obtain ⟨i, hi, hz, h1, h2⟩ : ∃ i, Try.prog.info? 23 = some i ∧ i.zero = some (.agg #[.int .u8 0, .int .u8 0, .int .u8 0, .int .u8 0, .int .u8 0, .int .u8 0, .int .u8 0, .int .u8 0, .int .u8 0, .int .u8 0, .int .u8 0, .int .u8 0, .int .u8 0, .int .u8 0, .int .u8 0, .int .u8 0, .int .u8 0, .int .u8 0, .int .u8 0, .int .u8 0, .int .u8 0, .int .u8 0, .int .u8 0, .int .u8 0, .int .u8 0, .int .u8 0, .int .u8 0, .int .u8 0, .int .u8 0, .int .u8 0, .int .u8 0, .int .u8 0]) ∧ i.size = 32 ∧ i.bytes = 32 := by
    have hinfo : (Try.prog.info? 23).map (fun i => (i.zero, i.size, i.bytes)) = some (some (.agg #[.int .u8 0, .int .u8 0, .int .u8 0, .int .u8 0, .int .u8 0, .int .u8 0, .int .u8 0, .int .u8 0, .int .u8 0, .int .u8 0, .int .u8 0, .int .u8 0, .int .u8 0, .int .u8 0, .int .u8 0, .int .u8 0, .int .u8 0, .int .u8 0, .int .u8 0, .int .u8 0, .int .u8 0, .int .u8 0, .int .u8 0, .int .u8 0, .int .u8 0, .int .u8 0, .int .u8 0, .int .u8 0, .int .u8 0, .int .u8 0, .int .u8 0, .int .u8 0]), 32, 32) := by kernel_rfl
    cases hq : Try.prog.info? 23 with
    | none => simp [hq] at hinfo
    | some i => simp [hq] at hinfo; exact ⟨i, rfl, hinfo.1, hinfo.2.1, hinfo.2.2⟩
  have hblk : ∀ k, v.ownBlock = some k → B ≤ k := fun k hk => by
    obtain ⟨_, hr⟩ := hown
    rcases hr with ⟨rfl, _⟩ | ⟨g, cap, cur, rfl, hg, _⟩
    · cases hk
    · cases hk; exact hg
  refine wpList_append_own w hgd s x 42 ho B 23 i (.agg #[.int .u8 0, .int .u8 0, .int .u8 0, .int .u8 0, .int .u8 0, .int .u8 0, .int .u8 0, .int .u8 0, .int .u8 0, .int .u8 0, .int .u8 0, .int .u8 0, .int .u8 0, .int .u8 0, .int .u8 0, .int .u8 0, .int .u8 0, .int .u8 0, .int .u8 0, .int .u8 0, .int .u8 0, .int .u8 0, .int .u8 0, .int .u8 0, .int .u8 0, .int .u8 0, .int .u8 0, .int .u8 0, .int .u8 0, .int .u8 0, .int .u8 0, .int .u8 0]) 32 32 Try.underlying42 hi hz h1 h2 rfl (by decide) v n (F.map (Value.int .u8)) hs hown ⟨g, 0, none⟩ 1 1 (C.map (Value.int .u8)) hx (by simp [hC]) (fun j u hu => ?_) (fun u hu => ?_) (by unfold maxLen; omega) (by omega) hB (fun v' w' h2 h3 _ => ?_)
  · have hj : j < C.length := by have := (List.getElem?_eq_some_iff.1 hu).1; simpa using this
    obtain ⟨b, ob, eb, hc⟩ := hby (by omega)
    cases eb
    rw [Addr.add_mid, hc j hj, ← hu]; simp [gi, hj]
  · obtain ⟨y, _, rfl⟩ := List.mem_map.1 hu; rfl
  · have hO : OwnF w' B v' (n + 1) (F ++ C) := by unfold OwnF; rw [List.map_append]; exact h2
    obtain ⟨sp', cap', rfl⟩ := ownF_form hO
    exact h sp' cap' w' hO ((Below.refl B w).grown h3 hB hblk)
end Go.Proofs.Ytgcffdnbihfghaa
