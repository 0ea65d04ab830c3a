/- Two messages held against one another in wire. -/
import Derived.Test.YtcdmjjlbeifgjaaKnown
import Derived.Test.YtcdmjjlbeifgjaaArg
import Derived.Test.YtcdmjjlbeifgjaaMsg
import Derived.Deep.DeepCutAuto
import Derived.BigQuiet
import Derived.Deep.QuietTactic
import Derived.Test.YtcdmjjlbeifgjaaTail
import Derived.Test.YtcdmjjlbeifgjaaArrEq
import Derived.Test.YtcdmjjlbeifgjaaModel
import Derived.Test.YtcdmjjlbeifgjaaEncode
namespace Go.Proofs.Ytcdmjjlbeifgjaa

section
open Go Go.RowKit
theorem loop_list (bs : ByteArray) : ∀ n i r, bs.size - i = n → ByteArray.toList.loop bs i r = r.reverse ++ bs.data.toList.drop i := by
  intro n
  induction n with
  | zero =>
    intro i r h
    have hi : ¬ i < bs.size := by omega
    rw [ByteArray.toList.loop.eq_def, if_neg hi, List.drop_eq_nil_of_le (by have : bs.data.toList.length = bs.size := rfl
                                                                            omega)]
    simp
  | succ n ih =>
    intro i r h
    have hi : i < bs.size := by omega
    have hl : i < bs.data.toList.length := hi
    rw [ByteArray.toList.loop.eq_def, if_pos hi, ih (i + 1) _ (by omega), List.drop_eq_getElem_cons hl]
    have hl2 : i < bs.data.size := hi
    simp [ByteArray.get!, getElem!_pos bs.data i hl2]
theorem list_of (bs : ByteArray) : bs.toList = bs.data.toList := by
  unfold ByteArray.toList
  rw [loop_list bs _ 0 [] rfl]
  simp
theorem u8_inj {a b : Int} (ha : 0 ≤ a ∧ a < 256) (hb : 0 ≤ b ∧ b < 256) (h : UInt8.ofNat a.toNat = UInt8.ofNat b.toNat) : a = b := by
  have h1 := congrArg UInt8.toNat h
  simp only [UInt8.toNat_ofNat'] at h1
  omega
theorem map_inj8 : ∀ {a b : List Int}, (∀ x ∈ a, 0 ≤ x ∧ x < 256) → (∀ x ∈ b, 0 ≤ x ∧ x < 256) → (a.map fun n => UInt8.ofNat n.toNat) = (b.map fun n => UInt8.ofNat n.toNat) → a = b
  | [], [], _, _, _ => rfl
  | [], _ :: _, _, _, h => by simp at h
  | _ :: _, [], _, _, h => by simp at h
  | x :: a, y :: b, ha, hb, h => by
    simp only [List.map_cons, List.cons.injEq] at h
    rw [u8_inj (ha x (by simp)) (hb y (by simp)) h.1, map_inj8 (fun z hz => ha z (by simp [hz])) (fun z hz => hb z (by simp [hz])) h.2]
theorem str_inj8 {a b : List Int} (ha : ∀ x ∈ a, 0 ≤ x ∧ x < 256) (hb : ∀ x ∈ b, 0 ≤ x ∧ x < 256) (h : a ≠ b) : (!((strOfNums a).toList == (strOfNums b).toList)) = true := by
  simp only [list_of, strOfNums_data, Bool.not_eq_true', beq_eq_false_iff_ne, ne_eq]
  exact fun e => h (map_inj8 ha hb e)


theorem str_eq8 {a b : List Int} (ha : By a) (hb : By b) : ((strOfNums a).toList == (strOfNums b).toList) = decide (a = b) := by
  by_cases h : a = b
  · subst h; simp
  · have := str_inj8 ha hb h
    rw [decide_eq_false h]
    simpa using this
set_option maxRecDepth 20000 in
set_option maxHeartbeats 1000000 in
theorem bequal_any (x y : List Int) (sp sq : Option Addr) (nx ny c d : Nat) (w : World) (hx : Bytes w sp x) (hy : Bytes w sq y) (hnx : x.length = nx) (hny : y.length = ny) (n1 : sp = none → nx = 0) (n2 : sq = none → ny = 0) (bx : By x) (bY : By y) :
    Calls Try.prog 43 #[.slice sp nx c, .slice sq ny d] w fun e w' => e = .returned (.bool (decide (x = y))) ∧ w' = w := by
  have h1 := run_str w sp nx c x hnx hx n1
  have h2 := run_str w sq ny d y hny hy n2
  have h3 := str_eq8 bx bY
  generalize decide (x = y) = R at *
  generalize strOfNums x = sx at *
  generalize strOfNums y = sy at *
  clear hx hy bx bY n1 n2
  go_enter Try.func43, Try.ntmps43
  go_wp2
  go_ret
  exact ⟨rfl, rfl⟩
theorem take_same {A B : List Int} {i : Nat} (h : A.take i = B.take i) (ha : i < A.length) (hb : i < B.length) (hg : gi A i = gi B i) : A.take (i + 1) = B.take (i + 1) := by
  rw [List.take_add_one, List.take_add_one, h]
  simp only [gi, List.getD, List.getElem?_eq_getElem ha, List.getElem?_eq_getElem hb, Option.getD_some] at hg
  simp [List.getElem?_eq_getElem ha, List.getElem?_eq_getElem hb, hg]
theorem gi_apart {A B : List Int} {i : Nat} (hg : gi A i ≠ gi B i) : decide (A = B) = false := decide_eq_false fun h => hg (by rw [h])
set_option maxRecDepth 20000 in
set_option maxHeartbeats 2000000 in
theorem ints_any (A B : List Int) (pa pb : Option Addr) (n m ca cb : Nat) (w : World) (hla : A.length = n) (hlb : B.length = m) (hn : n ≤ 9223372036854775807) (hA : Ints w pa A) (hB : Ints w pb B) :
    Calls Try.prog 27 #[.slice pa n ca, .slice pb m cb] w fun e w' => e = .returned (.bool (decide (A = B))) ∧ Below w.heap.size w w' := by
  by_cases hnm : n = m
  · subst hnm
    obtain ⟨R, hR⟩ : ∃ R, decide (A = B) = R := ⟨_, rfl⟩
    rw [hR]
    go_enter Try.func27, Try.ntmps27
    go_wp2
    go_loopw [5] (fun iv wr => ∃ i : Nat, iv = .int .i64 i ∧ i ≤ n ∧ A.take i = B.take i ∧ Below w.heap.size w wr) (fun iv _ => n - (intOf iv).toNat)
    case atStart => exact ⟨0, rfl, by omega, rfl, Below.refl _ _⟩
    case round =>
      obtain ⟨i, rfl, hi, hsm, b1⟩ := hrel
      by_cases hin : i < n
      · obtain ⟨ba, oa, rfl, ha⟩ := hA (by omega)
        obtain ⟨bb, ob, rfl, hb⟩ := hB (by omega)
        have c1 : ∀ k, (wr.drewN k).cell? ⟨ba, oa + i, none⟩ = some (.int .i64 (gi A i)) := fun k => by
          have h1 := ha i (by omega)
          have h2 := block_lt_of_cell h1
          rw [(below_drewN b1 k).cell (p := ⟨ba, oa + i, none⟩) (by simp only at h2 ⊢; omega)]; exact h1
        have c2 : ∀ k, (wr.drewN k).cell? ⟨bb, ob + i, none⟩ = some (.int .i64 (gi B i)) := fun k => by
          have h1 := hb i (by omega)
          have h2 := block_lt_of_cell h1
          rw [(below_drewN b1 k).cell (p := ⟨bb, ob + i, none⟩) (by simp only at h2 ⊢; omega)]; exact h1
        have hini : (i : Int) < n := by omega
        have hnext := fun h => take_same hsm (by omega) (by omega) h
        have hap : gi A i ≠ gi B i → R = false := fun h => by rw [← hR]; exact gi_apart h
        clear ha hb hA hB hR
        generalize gi A i = x at *
        generalize gi B i = y at *
        by_cases hxy : x = y
        · subst hxy
          have hs := hnext rfl
          clear hnext hap
          go_upto_region 6 with fail
          refine wp_region_quiet_lit (by kernel_rfl) (by kernel_rfl) ?_
          repeat (go_big_quiet_step (fail))
          refine wpQuiet_nil ?_
          rintro _ ⟨nq, rfl⟩
          have b2 := below_drewN b1 nq
          generalize wr.drewN nq = w2 at *
          clear c1 c2
          go_wp2
          go_roundw
          case rel => exact ⟨i + 1, by go_num, by omega, hs, b2⟩
          case measure => simp [intOf]; omega
        · obtain rfl := hap hxy
          have hxb : (x == y) = false := by simpa using hxy
          clear hnext hap
          go_upto_region 6 with fail
          refine wp_region_quiet_lit (by kernel_rfl) (by kernel_rfl) ?_
          repeat (go_big_quiet_step (fail))
          refine wpQuiet_nil ?_
          rintro _ ⟨nq, rfl⟩
          have b2 := below_drewN b1 nq
          generalize wr.drewN nq = w2 at *
          clear c1 c2
          go_wp2
          go_ret
          exact ⟨rfl, b2⟩
      · obtain rfl : i = n := by omega
        have hAB : A = B := by
          rw [List.take_of_length_le (by omega), List.take_of_length_le (by omega)] at hsm; exact hsm
        have hRt : R = true := by rw [← hR]; exact decide_eq_true hAB
        subst hRt
        clear hR hsm hAB hA hB hla hlb
        go_wp2
        go_ret
        exact ⟨rfl, b1⟩
  · have hAB : decide (A = B) = false := decide_eq_false fun h => hnm (by rw [← hla, ← hlb, h])
    rw [hAB]
    have hnb : ((n : Int) == (m : Int)) = false := by simp; omega
    clear hAB hA hB hla hlb
    go_enter Try.func27, Try.ntmps27
    go_wp2
    go_ret
    exact ⟨rfl, Below.refl _ _⟩
set_option maxRecDepth 20000 in
set_option maxHeartbeats 2000000 in
theorem equal_any (A B : List Int) (pa pb : Option Addr) (n m ca cb : Nat) (w : World) (hla : A.length = n) (hlb : B.length = m) (hn : n ≤ 9223372036854775807) (hA : Ints w pa A) (hB : Ints w pb B) :
    Calls Try.prog 42 #[.slice pa n ca, .slice pb m cb] w fun e w' => e = .returned (.bool (decide (A = B))) ∧ Below w.heap.size w w' := by
  by_cases hnm : n = m
  · subst hnm
    obtain ⟨R, hR⟩ : ∃ R, decide (A = B) = R := ⟨_, rfl⟩
    rw [hR]
    go_enter Try.func42, Try.ntmps42
    go_wp2
    go_loopw [13] (fun iv wr => ∃ i : Nat, iv = .int .i64 i ∧ i ≤ n ∧ A.take i = B.take i ∧ Below w.heap.size w wr) (fun iv _ => n - (intOf iv).toNat)
    case atStart => exact ⟨0, rfl, by omega, rfl, Below.refl _ _⟩
    case round =>
      obtain ⟨i, rfl, hi, hsm, b1⟩ := hrel
      by_cases hin : i < n
      · obtain ⟨ba, oa, rfl, ha⟩ := hA (by omega)
        obtain ⟨bb, ob, rfl, hb⟩ := hB (by omega)
        have c1 : ∀ k, (wr.drewN k).cell? ⟨ba, oa + i, none⟩ = some (.int .i64 (gi A i)) := fun k => by
          have h1 := ha i (by omega)
          have h2 := block_lt_of_cell h1
          rw [(below_drewN b1 k).cell (p := ⟨ba, oa + i, none⟩) (by simp only at h2 ⊢; omega)]; exact h1
        have c2 : ∀ k, (wr.drewN k).cell? ⟨bb, ob + i, none⟩ = some (.int .i64 (gi B i)) := fun k => by
          have h1 := hb i (by omega)
          have h2 := block_lt_of_cell h1
          rw [(below_drewN b1 k).cell (p := ⟨bb, ob + i, none⟩) (by simp only at h2 ⊢; omega)]; exact h1
        have hini : (i : Int) < n := by omega
        have hnext := fun h => take_same hsm (by omega) (by omega) h
        have hap : gi A i ≠ gi B i → R = false := fun h => by rw [← hR]; exact gi_apart h
        clear ha hb hA hB hR
        generalize gi A i = x at *
        generalize gi B i = y at *
        by_cases hxy : x = y
        · subst hxy
          have hs := hnext rfl
          clear hnext hap
          go_upto_region 6 with fail
          refine wp_region_quiet_lit (by kernel_rfl) (by kernel_rfl) ?_
          repeat (go_big_quiet_step (fail))
          refine wpQuiet_nil ?_
          rintro _ ⟨nq, rfl⟩
          have b2 := below_drewN b1 nq
          generalize wr.drewN nq = w2 at *
          clear c1 c2
          go_wp2
          go_roundw
          case rel => exact ⟨i + 1, by go_num, by omega, hs, b2⟩
          case measure => simp [intOf]; omega
        · obtain rfl := hap hxy
          have hxb : (x == y) = false := by simpa using hxy
          clear hnext hap
          go_upto_region 6 with fail
          refine wp_region_quiet_lit (by kernel_rfl) (by kernel_rfl) ?_
          repeat (go_big_quiet_step (fail))
          refine wpQuiet_nil ?_
          rintro _ ⟨nq, rfl⟩
          have b2 := below_drewN b1 nq
          generalize wr.drewN nq = w2 at *
          clear c1 c2
          go_wp2
          go_ret
          exact ⟨rfl, b2⟩
      · obtain rfl : i = n := by omega
        have hAB : A = B := by
          rw [List.take_of_length_le (by omega), List.take_of_length_le (by omega)] at hsm; exact hsm
        have hRt : R = true := by rw [← hR]; exact decide_eq_true hAB
        subst hRt
        clear hR hsm hAB hA hB hla hlb
        go_wp2
        go_ret
        exact ⟨rfl, b1⟩
  · have hAB : decide (A = B) = false := decide_eq_false fun h => hnm (by rw [← hla, ← hlb, h])
    rw [hAB]
    have hnb : ((n : Int) == (m : Int)) = false := by simp; omega
    clear hAB hA hB hla hlb
    go_enter Try.func42, Try.ntmps42
    go_wp2
    go_ret
    exact ⟨rfl, Below.refl _ _⟩
end

section
open Go Go.RowKit
theorem q_load_mid {P : Program} {ops : Array Oper} {ι : Type} {W : ι → World} {Q : Act → Prop} {rest : List Oper} {o : Oper} {a : Act} (ty : TypeId) (x : Operand) (ho : o.op = .load ty x) (hgd : Region.wanted o (yielded ops a.tmps) = true)
    (b off : Nat) (hx : a.eval x = .pointer (some ⟨b, off, none⟩)) (cs : List Value) (d : TypeDesc) (hr : ∀ i, (W i).rangeAt b off cs)
    (hu : P.underlying ty = some d) (hd : d.isRow = true) (hi : (P.info? ty).map (·.size) = some cs.length)
    (h : wpQuiet P ops (fun w' => ∃ i, w' = W i) Q rest (a.put o.dst (.agg cs.toArray))) : wpQuiet P ops (fun w' => ∃ i, w' = W i) Q (o :: rest) a := by
  unfold wpQuiet
  rw [if_pos hgd]
  refine ⟨.agg cs.toArray, fun w hw => ?_, h⟩
  obtain ⟨i, rfl⟩ := hw
  unfold Oper.quietAt execOp
  simp only [ho, hx, Instr.loadAt, Instr.sureAddr, Sem.run_bind, Sem.run_pure, Result.andThen_ok, run_loadVar_mid (W i) b off ty cs d (hr i) hu hd hi]
  exact ⟨rfl, rfl⟩
/-- Have two messages the same part? -/
def partS (p : Int) (m o : M) : Bool :=
  if p = 0 then m.pred == o.pred else if p = 1 then m.node == o.node else if p = 2 then decide (m.list = o.list) else if p = 3 then m.done == o.done
  else if p = 4 then m.err == o.err else if p = 5 then decide (m.key = o.key) else if p = 6 then decide (m.data = o.data) else m.lease == o.lease
theorem key_range {w : World} {g : Nat} {t : TypeId} {m : M} {lp dp : Option Addr} {lc dc : Nat} (h : Row w g t (mc m lp lc dp dc)) (hk : m.key.length = 32) : w.rangeAt g 5 (v8 m.key).toList := fun j v hv => by
  have hj : j < m.key.length := by have := (List.getElem?_eq_some_iff.1 hv).1; simpa [v8] using this
  rw [h.cell, mcK hk (by omega), ← hv]; simp [v8, gi, hj]
set_option maxRecDepth 20000 in
set_option maxHeartbeats 1000000 in
theorem same_part0 (m o : M) (lp dp lq dq : Option Addr) (lc dc ld dd : Nat) (w : World) (ga gb : Nat) (hA : Row w ga 28 (mc m lp lc dp dc)) (hB : Row w gb 28 (mc o lq ld dq dd)) (_hF : Fld w m lp lc dp dc) (_hG : Fld w o lq ld dq dd) (_yF : By m.data) (_yG : By o.data) (_hll : m.list.length ≤ 274877906944) :
    Calls Try.prog 26 #[.int .i64 0, .pointer (some ⟨ga, 0, none⟩), .pointer (some ⟨gb, 0, none⟩)] w fun e w' => e = .returned (.bool (partS 0 m o)) ∧ Below w.heap.size w w' := by
  have hp : partS 0 m o = (m.pred == o.pred) := rfl
  rw [hp]
  have c1 : ∀ k, (w.drewN k).cell? ⟨ga, 2, none⟩ = some (.int .i64 m.pred) := fun k => ((hA.drewN k).cell).trans mc2
  have c2 : ∀ k, (w.drewN k).cell? ⟨gb, 2, none⟩ = some (.int .i64 o.pred) := fun k => ((hB.drewN k).cell).trans mc2
  clear hA hB _hF _hG _yF _yG _hll hp
  generalize m.pred = x at *
  generalize o.pred = y at *
  go_enter Try.func26, Try.ntmps26
  go_upto_region 3 with fail
  refine wp_region_quiet_tail 8 (by kernel_rfl) (by kernel_rfl) ?_
  simp only [List.take_succ_cons, List.take_zero, List.drop_succ_cons, List.drop_zero]
  repeat (go_big_quiet_step (fail))
  refine wpQuiet_nil ?_
  rintro _ ⟨nq, rfl⟩
  have b2 := below_drewN (Below.refl w.heap.size w) nq
  go_wp2
  go_ret
  exact ⟨rfl, b2⟩
set_option maxRecDepth 20000 in
set_option maxHeartbeats 1000000 in
theorem same_part1 (m o : M) (lp dp lq dq : Option Addr) (lc dc ld dd : Nat) (w : World) (ga gb : Nat) (hA : Row w ga 28 (mc m lp lc dp dc)) (hB : Row w gb 28 (mc o lq ld dq dd)) (_hF : Fld w m lp lc dp dc) (_hG : Fld w o lq ld dq dd) (_yF : By m.data) (_yG : By o.data) (_hll : m.list.length ≤ 274877906944) :
    Calls Try.prog 26 #[.int .i64 1, .pointer (some ⟨ga, 0, none⟩), .pointer (some ⟨gb, 0, none⟩)] w fun e w' => e = .returned (.bool (partS 1 m o)) ∧ Below w.heap.size w w' := by
  have hp : partS 1 m o = (m.node == o.node) := rfl
  rw [hp]
  have c1 : ∀ k, (w.drewN k).cell? ⟨ga, 1, none⟩ = some (.int .i64 m.node) := fun k => ((hA.drewN k).cell).trans mc1
  have c2 : ∀ k, (w.drewN k).cell? ⟨gb, 1, none⟩ = some (.int .i64 o.node) := fun k => ((hB.drewN k).cell).trans mc1
  clear hA hB _hF _hG _yF _yG _hll hp
  generalize m.node = x at *
  generalize o.node = y at *
  go_enter Try.func26, Try.ntmps26
  go_upto_region 5 with fail
  refine wp_region_quiet_tail 8 (by kernel_rfl) (by kernel_rfl) ?_
  simp only [List.take_succ_cons, List.take_zero, List.drop_succ_cons, List.drop_zero]
  repeat (go_big_quiet_step (fail))
  refine wpQuiet_nil ?_
  rintro _ ⟨nq, rfl⟩
  have b2 := below_drewN (Below.refl w.heap.size w) nq
  go_wp2
  go_ret
  exact ⟨rfl, b2⟩
set_option maxRecDepth 20000 in
set_option maxHeartbeats 1000000 in
theorem same_part2 (m o : M) (lp dp lq dq : Option Addr) (lc dc ld dd : Nat) (w : World) (ga gb : Nat) (hA : Row w ga 28 (mc m lp lc dp dc)) (hB : Row w gb 28 (mc o lq ld dq dd)) (hF : Fld w m lp lc dp dc) (hG : Fld w o lq ld dq dd) (_yF : By m.data) (_yG : By o.data) (_hll : m.list.length ≤ 274877906944) :
    Calls Try.prog 26 #[.int .i64 2, .pointer (some ⟨ga, 0, none⟩), .pointer (some ⟨gb, 0, none⟩)] w fun e w' => e = .returned (.bool (partS 2 m o)) ∧ Below w.heap.size w w' := by
  have hp : partS 2 m o = decide (m.list = o.list) := rfl
  rw [hp]
  have c1 : ∀ k, (w.drewN k).cell? ⟨ga, 3, none⟩ = some (.slice lp m.list.length lc) := fun k => ((hA.drewN k).cell).trans mc3
  have c2 : ∀ k, (w.drewN k).cell? ⟨gb, 3, none⟩ = some (.slice lq o.list.length ld) := fun k => ((hB.drewN k).cell).trans mc3
  have hcl := fun wx (h : Below w.heap.size w wx) => equal_any m.list o.list lp lq m.list.length o.list.length lc ld wx rfl rfl (by omega) (hF.ints.below h (Nat.le_refl _)) (hG.ints.below h (Nat.le_refl _))
  generalize decide (m.list = o.list) = R at *
  clear hA hB hF hG _yF _yG _hll hp
  generalize m.list.length = x at *
  generalize o.list.length = y at *
  go_enter Try.func26, Try.ntmps26
  go_upto_region 7 with fail
  refine wp_region_quiet_tail 8 (by kernel_rfl) (by kernel_rfl) ?_
  simp only [List.take_succ_cons, List.take_zero, List.drop_succ_cons, List.drop_zero]
  repeat (go_big_quiet_step (fail))
  refine wpQuiet_nil ?_
  rintro _ ⟨nq, rfl⟩
  have b2 := below_drewN (Below.refl w.heap.size w) nq
  have hcl2 := hcl _ b2
  clear hcl
  go_wp2_with (go_at_call 42; (with_reducible refine Calls.mono hcl2 ?_); rintro e w3 ⟨rfl, hb3⟩)
  go_ret
  exact ⟨rfl, b2.trans (hb3.mono b2.size)⟩
set_option maxRecDepth 20000 in
set_option maxHeartbeats 1000000 in
theorem same_part3 (m o : M) (lp dp lq dq : Option Addr) (lc dc ld dd : Nat) (w : World) (ga gb : Nat) (hA : Row w ga 28 (mc m lp lc dp dc)) (hB : Row w gb 28 (mc o lq ld dq dd)) (_hF : Fld w m lp lc dp dc) (_hG : Fld w o lq ld dq dd) (_yF : By m.data) (_yG : By o.data) (_hll : m.list.length ≤ 274877906944) :
    Calls Try.prog 26 #[.int .i64 3, .pointer (some ⟨ga, 0, none⟩), .pointer (some ⟨gb, 0, none⟩)] w fun e w' => e = .returned (.bool (partS 3 m o)) ∧ Below w.heap.size w w' := by
  have hp : partS 3 m o = (m.done == o.done) := rfl
  rw [hp]
  have c1 : ∀ k, (w.drewN k).cell? ⟨ga, 4, none⟩ = some (.bool m.done) := fun k => ((hA.drewN k).cell).trans mc4
  have c2 : ∀ k, (w.drewN k).cell? ⟨gb, 4, none⟩ = some (.bool o.done) := fun k => ((hB.drewN k).cell).trans mc4
  clear hA hB _hF _hG _yF _yG _hll hp
  generalize m.done = x at *
  generalize o.done = y at *
  go_enter Try.func26, Try.ntmps26
  go_upto_region 9 with fail
  refine wp_region_quiet_tail 8 (by kernel_rfl) (by kernel_rfl) ?_
  simp only [List.take_succ_cons, List.take_zero, List.drop_succ_cons, List.drop_zero]
  repeat (go_big_quiet_step (fail))
  refine wpQuiet_nil ?_
  rintro _ ⟨nq, rfl⟩
  have b2 := below_drewN (Below.refl w.heap.size w) nq
  go_wp2
  go_ret
  exact ⟨rfl, b2⟩
set_option maxRecDepth 20000 in
set_option maxHeartbeats 1000000 in
theorem same_part4 (m o : M) (lp dp lq dq : Option Addr) (lc dc ld dd : Nat) (w : World) (ga gb : Nat) (hA : Row w ga 28 (mc m lp lc dp dc)) (hB : Row w gb 28 (mc o lq ld dq dd)) (hF : Fld w m lp lc dp dc) (hG : Fld w o lq ld dq dd) (_yF : By m.data) (_yG : By o.data) (_hll : m.list.length ≤ 274877906944) :
    Calls Try.prog 26 #[.int .i64 4, .pointer (some ⟨ga, 0, none⟩), .pointer (some ⟨gb, 0, none⟩)] w fun e w' => e = .returned (.bool (partS 4 m o)) ∧ Below w.heap.size w w' := by
  have hp : partS 4 m o = (m.err == o.err) := rfl
  rw [hp]
  have c1 : ∀ k, (w.drewN k).cell? ⟨ga, 39, none⟩ = some (.int .i64 m.err) := fun k => ((hA.drewN k).cell).trans (mc39 hF.key)
  have c2 : ∀ k, (w.drewN k).cell? ⟨gb, 39, none⟩ = some (.int .i64 o.err) := fun k => ((hB.drewN k).cell).trans (mc39 hG.key)
  clear hA hB hF hG _yF _yG _hll hp
  generalize m.err = x at *
  generalize o.err = y at *
  go_enter Try.func26, Try.ntmps26
  go_upto_region 11 with fail
  refine wp_region_quiet_tail 8 (by kernel_rfl) (by kernel_rfl) ?_
  simp only [List.take_succ_cons, List.take_zero, List.drop_succ_cons, List.drop_zero]
  repeat (go_big_quiet_step (fail))
  refine wpQuiet_nil ?_
  rintro _ ⟨nq, rfl⟩
  have b2 := below_drewN (Below.refl w.heap.size w) nq
  go_wp2
  go_ret
  exact ⟨rfl, b2⟩
set_option maxRecDepth 20000 in
set_option maxHeartbeats 1000000 in
theorem same_part5 (m o : M) (lp dp lq dq : Option Addr) (lc dc ld dd : Nat) (w : World) (ga gb : Nat) (hA : Row w ga 28 (mc m lp lc dp dc)) (hB : Row w gb 28 (mc o lq ld dq dd)) (hF : Fld w m lp lc dp dc) (hG : Fld w o lq ld dq dd) (_yF : By m.data) (_yG : By o.data) (_hll : m.list.length ≤ 274877906944) :
    Calls Try.prog 26 #[.int .i64 5, .pointer (some ⟨ga, 0, none⟩), .pointer (some ⟨gb, 0, none⟩)] w fun e w' => e = .returned (.bool (partS 5 m o)) ∧ Below w.heap.size w w' := by
  have hp : partS 5 m o = decide (m.key = o.key) := rfl
  rw [hp]
  have ra := fun k => key_range (hA.drewN k) hF.key
  have rb := fun k => key_range (hB.drewN k) hG.key
  have ia : (Try.prog.info? 24).map (·.size) = some (v8 m.key).toList.length := by rw [Array.length_toList, v8_size, hF.key]; kernel_rfl
  have ib : (Try.prog.info? 24).map (·.size) = some (v8 o.key).toList.length := by rw [Array.length_toList, v8_size, hG.key]; kernel_rfl
  have heq := fun wx => run_eql_bytes (P := Try.prog) wx 24 5 32 m.key o.key Try.underlying24 Try.underlying5 (by kernel_rfl) hF.key hG.key
  have ta : (v8 m.key).toList.toArray = v8 m.key := by simp
  have tb : (v8 o.key).toList.toArray = v8 o.key := by simp
  clear hA hB hF hG _yF _yG _hll hp
  generalize decide (m.key = o.key) = R at *
  generalize m.key = x at *
  generalize o.key = y at *
  go_enter Try.func26, Try.ntmps26
  go_upto_region 13 with fail
  refine wp_region_quiet_tail 8 (by kernel_rfl) (by kernel_rfl) ?_
  simp only [List.take_succ_cons, List.take_zero, List.drop_succ_cons, List.drop_zero]
  iterate 3 (go_big_quiet_step (fail))
  refine q_load_mid 24 (.tmp 67) (by rfl) (by rfl) ga 5 (by rfl) (v8 x).toList _ ra Try.underlying24 rfl ia ?_
  rw [ta]
  simp only [Act.put, List.setIfInBounds_toArray, List.set_cons_succ, List.set_cons_zero]
  iterate 3 (go_big_quiet_step (fail))
  refine q_load_mid 24 (.tmp 71) (by rfl) (by rfl) gb 5 (by rfl) (v8 y).toList _ rb Try.underlying24 rfl ib ?_
  rw [tb]
  simp only [Act.put, List.setIfInBounds_toArray, List.set_cons_succ, List.set_cons_zero]
  repeat (go_big_quiet_step (fail))
  refine wpQuiet_nil ?_
  rintro _ ⟨nq, rfl⟩
  have b2 := below_drewN (Below.refl w.heap.size w) nq
  go_wp2
  go_ret
  exact ⟨rfl, b2⟩
set_option maxRecDepth 20000 in
set_option maxHeartbeats 1000000 in
theorem same_part6 (m o : M) (lp dp lq dq : Option Addr) (lc dc ld dd : Nat) (w : World) (ga gb : Nat) (hA : Row w ga 28 (mc m lp lc dp dc)) (hB : Row w gb 28 (mc o lq ld dq dd)) (hF : Fld w m lp lc dp dc) (hG : Fld w o lq ld dq dd) (yF : By m.data) (yG : By o.data) (_hll : m.list.length ≤ 274877906944) :
    Calls Try.prog 26 #[.int .i64 6, .pointer (some ⟨ga, 0, none⟩), .pointer (some ⟨gb, 0, none⟩)] w fun e w' => e = .returned (.bool (partS 6 m o)) ∧ Below w.heap.size w w' := by
  have hp : partS 6 m o = decide (m.data = o.data) := rfl
  rw [hp]
  have c1 : ∀ k, (w.drewN k).cell? ⟨ga, 37, none⟩ = some (.slice dp m.data.length dc) := fun k => ((hA.drewN k).cell).trans (mc37 hF.key)
  have c2 : ∀ k, (w.drewN k).cell? ⟨gb, 37, none⟩ = some (.slice dq o.data.length dd) := fun k => ((hB.drewN k).cell).trans (mc37 hG.key)
  have hcl := fun wx (h : Below w.heap.size w wx) => bequal_any m.data o.data dp dq m.data.length o.data.length dc dd wx (hF.bytes.below h) (hG.bytes.below h) rfl rfl (fun h => (hF.dnil h).2) (fun h => (hG.dnil h).2) yF yG
  generalize decide (m.data = o.data) = R at *
  clear hA hB hF hG yF yG _hll hp
  generalize m.data.length = x at *
  generalize o.data.length = y at *
  go_enter Try.func26, Try.ntmps26
  go_upto_region 15 with fail
  refine wp_region_quiet_tail 8 (by kernel_rfl) (by kernel_rfl) ?_
  simp only [List.take_succ_cons, List.take_zero, List.drop_succ_cons, List.drop_zero]
  repeat (go_big_quiet_step (fail))
  refine wpQuiet_nil ?_
  rintro _ ⟨nq, rfl⟩
  have b2 := below_drewN (Below.refl w.heap.size w) nq
  have hcl2 := hcl _ b2
  clear hcl
  go_wp2_with (go_at_call 43; (with_reducible refine Calls.mono hcl2 ?_); rintro e w3 ⟨rfl, hw⟩; subst hw)
  go_ret
  exact ⟨rfl, b2⟩
set_option maxRecDepth 20000 in
set_option maxHeartbeats 1000000 in
theorem same_part7 (m o : M) (lp dp lq dq : Option Addr) (lc dc ld dd : Nat) (w : World) (ga gb : Nat) (hA : Row w ga 28 (mc m lp lc dp dc)) (hB : Row w gb 28 (mc o lq ld dq dd)) (hF : Fld w m lp lc dp dc) (hG : Fld w o lq ld dq dd) (_yF : By m.data) (_yG : By o.data) (_hll : m.list.length ≤ 274877906944) :
    Calls Try.prog 26 #[.int .i64 7, .pointer (some ⟨ga, 0, none⟩), .pointer (some ⟨gb, 0, none⟩)] w fun e w' => e = .returned (.bool (partS 7 m o)) ∧ Below w.heap.size w w' := by
  have hp : partS 7 m o = (m.lease == o.lease) := rfl
  rw [hp]
  have c1 : ∀ k, (w.drewN k).cell? ⟨ga, 38, none⟩ = some (.int .i64 m.lease) := fun k => ((hA.drewN k).cell).trans (mc38 hF.key)
  have c2 : ∀ k, (w.drewN k).cell? ⟨gb, 38, none⟩ = some (.int .i64 o.lease) := fun k => ((hB.drewN k).cell).trans (mc38 hG.key)
  clear hA hB hF hG _yF _yG _hll hp
  generalize m.lease = x at *
  generalize o.lease = y at *
  go_enter Try.func26, Try.ntmps26
  go_upto_region 16 with fail
  refine wp_region_quiet_tail 8 (by kernel_rfl) (by kernel_rfl) ?_
  simp only [List.take_succ_cons, List.take_zero, List.drop_succ_cons, List.drop_zero]
  repeat (go_big_quiet_step (fail))
  refine wpQuiet_nil ?_
  rintro _ ⟨nq, rfl⟩
  have b2 := below_drewN (Below.refl w.heap.size w) nq
  go_wp2
  go_ret
  exact ⟨rfl, b2⟩
theorem same_part (p : Int) (hp : 0 ≤ p ∧ p ≤ 7) (m o : M) (lp dp lq dq : Option Addr) (lc dc ld dd : Nat) (w : World) (ga gb : Nat) (hA : Row w ga 28 (mc m lp lc dp dc)) (hB : Row w gb 28 (mc o lq ld dq dd)) (hF : Fld w m lp lc dp dc) (hG : Fld w o lq ld dq dd) (yF : By m.data) (yG : By o.data) (hll : m.list.length ≤ 274877906944) :
    Calls Try.prog 26 #[.int .i64 p, .pointer (some ⟨ga, 0, none⟩), .pointer (some ⟨gb, 0, none⟩)] w fun e w' => e = .returned (.bool (partS p m o)) ∧ Below w.heap.size w w' := by
  rcases (by omega : p = 0 ∨ p = 1 ∨ p = 2 ∨ p = 3 ∨ p = 4 ∨ p = 5 ∨ p = 6 ∨ p = 7) with rfl | rfl | rfl | rfl | rfl | rfl | rfl | rfl
  · exact same_part0 m o lp dp lq dq lc dc ld dd w ga gb hA hB hF hG yF yG hll
  · exact same_part1 m o lp dp lq dq lc dc ld dd w ga gb hA hB hF hG yF yG hll
  · exact same_part2 m o lp dp lq dq lc dc ld dd w ga gb hA hB hF hG yF yG hll
  · exact same_part3 m o lp dp lq dq lc dc ld dd w ga gb hA hB hF hG yF yG hll
  · exact same_part4 m o lp dp lq dq lc dc ld dd w ga gb hA hB hF hG yF yG hll
  · exact same_part5 m o lp dp lq dq lc dc ld dd w ga gb hA hB hF hG yF yG hll
  · exact same_part6 m o lp dp lq dq lc dc ld dd w ga gb hA hB hF hG yF yG hll
  · exact same_part7 m o lp dp lq dq lc dc ld dd w ga gb hA hB hF hG yF yG hll
end

section
open Go Go.RowKit
/-- Have two messages the same kind, and all that it names? -/
def sameM (m o : M) : Bool := m.kind == o.kind && ((rowOf m.kind).getD []).all fun p => partS p m o
theorem all_step {l : List Int} {k : Nat} (f : Int → Bool) (h : (l.take k).all f = true) (hk : k < l.length) : (l.take (k + 1)).all f = f (gi l k) := by
  rw [List.take_add_one, List.getElem?_eq_getElem hk]
  rw [List.all_append, h]
  simp [gi, hk]
theorem all_not {l : List Int} {k : Nat} (f : Int → Bool) (hk : k < l.length) (h : f (gi l k) = false) : l.all f = false := by
  have : gi l k ∈ l := by simp [gi, hk]
  rw [List.all_eq_false]
  exact ⟨_, this, by simp [h]⟩
set_option maxRecDepth 20000 in
set_option maxHeartbeats 2000000 in
theorem same_any (m o : M) (lp dp lq dq : Option Addr) (lc dc ld dd : Nat) (w : World) (hF : Fld w m lp lc dp dc) (hG : Fld w o lq ld dq dd) (yF : By m.data) (yG : By o.data) (hll : m.list.length ≤ 274877906944) :
    Calls Try.prog 13 #[.agg (mc m lp lc dp dc), .agg (mc o lq ld dq dd)] w fun e w' => e = .returned (.bool (sameM m o)) ∧ Below w.heap.size w w' := by
  have hrow := rowOf_any m.kind
  have hb0 : Below w.heap.size w (World.alloc (World.alloc w (.cells (mc m lp lc dp dc) 28)) (.cells (mc o lq ld dq dd) 28)) := ((Below.refl _ _).alloc (Nat.le_refl _) _).alloc (by simp) _
  have rA : Row (World.alloc (World.alloc w (.cells (mc m lp lc dp dc) 28)) (.cells (mc o lq ld dq dd) 28)) w.heap.size 28 (mc m lp lc dp dc) := (Row.new _ _ _).alloc _
  have rB : Row (World.alloc (World.alloc w (.cells (mc m lp lc dp dc) 28)) (.cells (mc o lq ld dq dd) 28)) (w.heap.size + 1) 28 (mc o lq ld dq dd) := by
    have := Row.new (World.alloc w (.cells (mc m lp lc dp dc) 28)) 28 (mc o lq ld dq dd)
    simpa using this
  have cA := rA.cell.trans mc0
  have cB := rB.cell.trans mc0
  by_cases hkk : m.kind = o.kind
  · obtain ⟨r, hr⟩ : ∃ r, (rowOf m.kind).getD [] = r := ⟨_, rfl⟩
    have hp : ∀ p ∈ r, 0 ≤ p ∧ p ≤ 7 := fun p hp => by
      rw [← hr] at hp
      cases hq : rowOf m.kind with
      | none => rw [hq] at hp; simp at hp
      | some r' => rw [hq] at hp; exact rowOf_parts _ _ hq p hp
    have hrl := rowOf_len m.kind
    obtain ⟨R, hR⟩ : ∃ R, sameM m o = R := ⟨_, rfl⟩
    have hRr : r.all (fun p => partS p m o) = R := by rw [← hR, sameM, hr, hkk]; simp
    rw [hR]
    unfold Rowed at hrow
    rw [hr] at hrow hrl
    have hkb : (m.kind == o.kind) = true := by simpa using hkk
    obtain ⟨ga, hga⟩ : ∃ ga, w.heap.size = ga := ⟨_, rfl⟩
    obtain ⟨gb, hgb⟩ : ∃ gb, ga + 1 = gb := ⟨_, rfl⟩
    rw [hga] at rA cA
    rw [hga, hgb] at rB cB
    have hF0 := hF.below hb0
    have hG0 := hG.below hb0
    clear hR hr hF hG
    go_enter Try.func13, Try.ntmps13
    go_upto_region 1 with fail
    change Code.wp _ _ _ _ (World.alloc (World.alloc w (.cells (mc m lp lc dp dc) 28)) (.cells (mc o lq ld dq dd) 28))
    generalize World.alloc (World.alloc w (.cells (mc m lp lc dp dc) 28)) (.cells (mc o lq ld dq dd) 28) = w1 at *
    try simp only [hga, hgb]
    generalize (rowOf m.kind).isSome = is at *
    have hko : o.kind = m.kind := hkk.symm
    clear hkk
    rw [hko] at cB
    clear hko hkb
    go_upto_region 4 with (go_at_call 19; (with_reducible refine Calls.mono (hrow _) ?_); rintro e w2 ⟨sp, cap, rfl, ho, hb2⟩)
    have b2 := hb0.trans (hb2.mono hb0.size)
    have rA2 := rA.below hb2 rA.lt
    have rB2 := rB.below hb2 rB.lt
    have hF2 := hF0.below hb2
    have hG2 := hG0.below hb2
    have hI := ho.ints
    clear rA rB cA cB hF0 hG0 hb0 hb2 ho hrow
    go_wp2
    go_loopw [22] (fun i wr => ∃ k : Nat, i = .int .i64 k ∧ k ≤ r.length ∧ (r.take k).all (fun p => partS p m o) = true ∧ Below w2.heap.size w2 wr) (fun i _ => r.length - (intOf i).toNat)
    case atStart => exact ⟨0, rfl, by omega, rfl, Below.refl _ _⟩
    case round =>
      obtain ⟨k, rfl, hk, hall, b3⟩ := hrel
      by_cases hlt : k < r.length
      · obtain ⟨b, off, rfl, hcl⟩ := hI.below b3 (Nat.le_refl _) (by omega)
        have g1 := hcl k hlt
        have hpk := hp _ (gi_mem r k hlt)
        have hst := all_step (fun p => partS p m o) hall hlt
        have hno := fun h => all_not (l := r) (k := k) (fun p => partS p m o) hlt h
        have hsp := same_part (gi r k) hpk m o lp dp lq dq lc dc ld dd wr ga gb (rA2.below b3 rA2.lt) (rB2.below b3 rB2.lt) (hF2.below b3) (hG2.below b3) yF yG hll
        rw [hRr] at hno

        obtain ⟨T, hT⟩ : ∃ T, partS (gi r k) m o = T := ⟨_, rfl⟩
        rw [hT] at hsp hno
        have hst2 : Hid ((r.take (k + 1)).all (fun p => partS p m o) = T) := hst.trans hT
        clear hst hT hcl hall hRr hp hI
        generalize gi r k = p at *
        cases T
        · obtain rfl := hno rfl
          clear hno hst2
          go_wp2_with (go_at_call 26; (with_reducible refine Calls.mono hsp ?_); rintro e w4 ⟨rfl, hb4⟩)
          go_ret
          exact ⟨rfl, b2.trans ((b3.trans (hb4.mono b3.size)).mono b2.size)⟩
        · clear hno
          go_wp2_with (go_at_call 26; (with_reducible refine Calls.mono hsp ?_); rintro e w4 ⟨rfl, hb4⟩)
          go_roundw
          case rel => exact ⟨k + 1, by go_num, by omega, hst2, b3.trans (hb4.mono b3.size)⟩
          case measure => simp [intOf]; omega
      · obtain rfl : k = r.length := by omega
        rw [List.take_length] at hall
        have hRt : R = true := hRr.symm.trans hall
        subst hRt
        clear hall hRr hp hI
        go_wp2
        go_ret
        exact ⟨rfl, b2.trans (b3.mono b2.size)⟩
  · have hkb : (m.kind == o.kind) = false := by simpa using hkk
    have hS : sameM m o = false := by rw [sameM, hkb]; rfl
    rw [hS]
    clear hrow hF hG yF yG hll hS hkk
    go_enter Try.func13, Try.ntmps13
    go_upto_region 1 with fail
    change Code.wp _ _ _ _ (World.alloc (World.alloc w (.cells (mc m lp lc dp dc) 28)) (.cells (mc o lq ld dq dd) 28))
    generalize World.alloc (World.alloc w (.cells (mc m lp lc dp dc) 28)) (.cells (mc o lq ld dq dd) 28) = w1 at *
    go_wp2
    go_ret
    exact ⟨rfl, hb0⟩
end

end Go.Proofs.Ytcdmjjlbeifgjaa
