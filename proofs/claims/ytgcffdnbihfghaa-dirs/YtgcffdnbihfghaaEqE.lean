/- '==' of two rows of entries that are one. No old memory turns. -/
import Derived.Test.YtgcffdnbihfghaaEqN
import Derived.Test.YtgcffdnbihfghaaEncD
namespace Go.Proofs.Ytgcffdnbihfghaa
open Go Go.RowKit
theorem fields54 : (Try.prog.fieldsOf 54).toList = [{ name := "Name", type := 9, offset := 0, embedded := false, tag := "", pkgPath := "", byteOffset := 0 }, { name := "Node", type := 23, offset := 1, embedded := false, tag := "", pkgPath := "", byteOffset := 16 }] := by kernel_rfl
theorem part_name (e : Ent) (w : World) : (part 9 (en e) 0).run Try.prog w = .ok (.string e.name) w := by
  simp [part, isAgg, run_underlying Try.underlying9, en0, Sem.run_bind]
theorem part_node {e : Ent} (w : World) (h : e.node.length = 32) : (part 23 (en e) 1).run Try.prog w = .ok (.agg (v8 e.node)) w := by
  obtain ⟨inf, hinf, h1⟩ : ∃ inf, Try.prog.info? 23 = some inf ∧ inf.size = 32 := by
    have : (Try.prog.info? 23).map (·.size) = some 32 := by kernel_rfl
    cases hq : Try.prog.info? 23 with
    | none => simp [hq] at this
    | some i => exact ⟨i, rfl, by simpa [hq] using this⟩
  have e' : (en e).extract 1 (1 + 32) = v8 e.node := by
    have : (e.node.map (Value.int .u8)).length = 32 := by simpa using h
    simp [en, ec, v8, List.extract_eq_take_drop, List.take_of_length_le (Nat.le_of_eq this)]
  simp [part, isAgg, run_underlying Try.underlying23, Sem.run_bind, sizeOf, typeInfo, hinf, h1, e']
theorem eq_ent (e : Ent) (h : e.node.length = 32) (w : World) : (Op.equalIn 10000 54 (.agg (en e)) (.agg (en e))).run Try.prog w = .ok true w := by
  rw [run_equalIn_struct w 9999 54 _ _ (by kernel_rfl) (by kernel_rfl), fields54]
  have q9 : (Op.equalIn 9999 9 (.string e.name) (.string e.name)).run Try.prog w = .ok true w := by
    have := run_equalIn_string (P := Try.prog) (w := w) 9998 9 e.name e.name Try.underlying9
    rwa [BEq.rfl] at this
  have q23 : (Op.equalIn 9999 23 (.agg (v8 e.node)) (.agg (v8 e.node))).run Try.prog w = .ok true w := by
    have := run_eq_array (P := Try.prog) w 9997 23 5 32 e.node e.node Try.underlying23 Try.underlying5 (by kernel_rfl) h h
    rwa [decide_eq_true rfl] at this
  have nn0 : "Name" ≠ "_" := by simp
  have nn1 : "Node" ≠ "_" := by simp
  have s0 := eqf_cons (P := Try.prog) (d := 9999) (xs := en e) (ys := en e) (f := { name := "Name", type := 9, offset := 0, embedded := false, tag := "", pkgPath := "", byteOffset := 0 }) (fs := [{ name := "Node", type := 23, offset := 1, embedded := false, tag := "", pkgPath := "", byteOffset := 16 }]) (w := w) (a := .string e.name) (b := .string e.name) nn0 (part_name e w) (part_name e w) q9
  have s1 := eqf_cons (P := Try.prog) (d := 9999) (xs := en e) (ys := en e) (f := { name := "Node", type := 23, offset := 1, embedded := false, tag := "", pkgPath := "", byteOffset := 16 }) (fs := []) (w := w) (a := .agg (v8 e.node)) (b := .agg (v8 e.node)) nn1 (part_node w h) (part_node w h) q23
  exact s0.trans (s1.trans rfl)
set_option maxRecDepth 20000 in
set_option maxHeartbeats 1000000 in
theorem entries_any (E : List Ent) (n : Nat) (pa pb : Option Addr) (ca cb : Nat) (w : World) (hl : E.length = n) (hn : n ≤ 1000000) (hok : EntsOk E) (ha : Ents w pa E) (hb : Ents w pb E) :
    Calls Try.prog 26 #[.slice pa n ca, .slice pb n cb] w fun e w' => e = .returned (.bool true) ∧ Below w.heap.size w w' := by
  go_enter Try.func26, Try.ntmps26
  go_wp2
  go_loopw [5] (fun i wr => ∃ j : Nat, j ≤ n ∧ i = .int .i64 j ∧ Below w.heap.size w wr) (fun i _ => n - (intOf i).toNat)
  case atStart => exact ⟨0, by omega, rfl, Below.refl _ _⟩
  case round =>
    obtain ⟨j, hj, rfl, b1⟩ := hrel
    by_cases hjn : j < n
    · obtain ⟨e, hget⟩ : ∃ e, E[j]? = some e := ⟨_, List.getElem?_eq_getElem (by omega)⟩
      have he := hok e (List.mem_of_getElem? hget)
      obtain ⟨ba, oa, rfl, hca⟩ := ha (by omega)
      obtain ⟨bb, ob, rfl, hcb⟩ := hb (by omega)
      have ra := fun k => rangeAt_below (hca j e hget) (below_drewN b1 k) (Nat.le_refl _)
      have rb := fun k => rangeAt_below (hcb j e hget) (below_drewN b1 k) (Nat.le_refl _)
      have hi := info54 he.1
      have heq := eq_ent e he.1
      have hto : (ec e).toArray = en e := rfl
      clear ha hb hca hcb hok
      go_upto_region 6 with fail
      refine wp_region_quiet_lit (by kernel_rfl) (by kernel_rfl) ?_
      iterate 3 (go_big_quiet_step (fail))
      refine q_load_mid 54 (.tmp 19) (by rfl) (by rfl) ba (oa + j * 33) (by rfl) (ec e) _ ra Try.underlying54 rfl hi ?_
      rw [hto]
      simp only [Act.put, List.setIfInBounds_toArray, List.set_cons_succ, List.set_cons_zero]
      iterate 3 (go_big_quiet_step (fail))
      refine q_load_mid 54 (.tmp 23) (by rfl) (by rfl) bb (ob + j * 33) (by rfl) (ec e) _ rb Try.underlying54 rfl hi ?_
      rw [hto]
      simp only [Act.put, List.setIfInBounds_toArray, List.set_cons_succ, List.set_cons_zero]
      repeat (go_big_quiet_step (fail))
      refine wpQuiet_nil ?_
      rintro _ ⟨nq, rfl⟩
      have b2 := below_drewN b1 nq
      clear ra rb b1
      generalize wr.drewN nq = w2 at *
      go_wp2
      go_roundw
      case rel => exact ⟨j + 1, by omega, by go_num, b2⟩
      case measure => simp [intOf]; omega
    · obtain rfl : j = n := by omega
      go_wp2
      go_ret
      exact ⟨rfl, b1⟩
end Go.Proofs.Ytgcffdnbihfghaa
