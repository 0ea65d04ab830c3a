/- Two messages held against one another, in the reference. No old memory turns. -/
import Derived.Test.YtcdmjjlbeifgjaaGs
import Derived.Test.YtcdmjjlbeifgjaaRegInv
namespace Go.Proofs.Ytcdmjjlbeifgjaa
open Go Go.RowKit
theorem exec_load_mid {P : Program} {o : Oper} {a : Act} {w : World} (ty : TypeId) (x : Operand) (ho : o.op = .load ty x) (b off : Nat) (hx : a.eval x = .pointer (some ⟨b, off, none⟩)) (cs : List Value) (d : TypeDesc) (hr : w.rangeAt b off cs)
    (hu : P.underlying ty = some d) (hd : d.isRow = true) (hi : (P.info? ty).map (·.size) = some cs.length) : (execOp a.eval o).run P w = .ok (.value (.agg cs.toArray)) w := by
  unfold execOp
  simp only [ho, hx, Instr.loadAt, Instr.sureAddr, Sem.run_bind, Sem.run_pure, Result.andThen_ok, run_loadVar_mid w b off ty cs d hr hu hd hi]
set_option maxRecDepth 20000 in
set_option maxHeartbeats 8000000 in
theorem rsame_any (m o : M) (lp dp lq dq : Option Addr) (lc dc ld dd : Nat) (w : World) (hF : Fld w m lp lc dp dc) (hG : Fld w o lq ld dq dd) (yF : By m.data) (yG : By o.data) (hll : m.list.length ≤ 274877906944) :
    Calls Try.prog 14 #[.agg (mc m lp lc dp dc), .agg (mc o lq ld dq dd)] w fun e w' => e = .returned (.bool (sameM m o)) ∧ Below w.heap.size w w' := by
  have hb0 : Below w.heap.size w (World.alloc (World.alloc w (.cells (mc m lp lc dp dc) 28)) (.cells (mc o lq ld dq dd) 28)) := ((Below.refl _ _).alloc (Nat.le_refl _) _).alloc (by simp) _
  have rA : Row (World.alloc (World.alloc w (.cells (mc m lp lc dp dc) 28)) (.cells (mc o lq ld dq dd) 28)) w.heap.size 28 (mc m lp lc dp dc) := (Row.new _ _ _).alloc _
  have rB : Row (World.alloc (World.alloc w (.cells (mc m lp lc dp dc) 28)) (.cells (mc o lq ld dq dd) 28)) (w.heap.size + 1) 28 (mc o lq ld dq dd) := by
    have := Row.new (World.alloc w (.cells (mc m lp lc dp dc) 28)) 28 (mc o lq ld dq dd)
    simpa using this
  obtain ⟨ga, hga⟩ : ∃ ga, w.heap.size = ga := ⟨_, rfl⟩
  obtain ⟨gb, hgb⟩ : ∃ gb, ga + 1 = gb := ⟨_, rfl⟩
  have hF0 := hF.below hb0
  have hG0 := hG.below hb0
  by_cases hkk : m.kind = o.kind
  · obtain ⟨R, hR⟩ : ∃ R, sameM m o = R := ⟨_, rfl⟩
    rw [hR]
    rw [hga] at rA
    rw [hga, hgb] at rB
    have cA := rA.cell.trans mc0
    have cB := (rB.cell.trans mc0).trans (by rw [← hkk])
    have hkb : (m.kind == o.kind) = true := by simpa using hkk
    clear hF hG
    go_enter Try.func14, Try.ntmps14
    go_upto_region 1 with fail
    change Code.wp _ _ _ _ (World.alloc (World.alloc w (.cells (mc m lp lc dp dc) 28)) (.cells (mc o lq ld dq dd) 28))
    generalize (World.alloc (World.alloc w (.cells (mc m lp lc dp dc) 28)) (.cells (mc o lq ld dq dd) 28)) = w1 at *
    try simp only [hga, hgb]
    go_upto_region 3 with fail
    have ia : (Try.prog.info? 24).map (·.size) = some (v8 m.key).toList.length := by rw [Array.length_toList, v8_size, hF0.key]; kernel_rfl
    have ib : (Try.prog.info? 24).map (·.size) = some (v8 o.key).toList.length := by rw [Array.length_toList, v8_size, hG0.key]; kernel_rfl
    have ta : (v8 m.key).toList.toArray = v8 m.key := by simp
    have tb : (v8 o.key).toList.toArray = v8 o.key := by simp
    obtain ⟨bk, hbk⟩ : ∃ b, decide (m.key = o.key) = b := ⟨_, rfl⟩
    obtain ⟨ba, hba⟩ : ∃ b, decide (m.data = o.data) = b := ⟨_, rfl⟩
    obtain ⟨bl, hbl⟩ : ∃ b, decide (m.list = o.list) = b := ⟨_, rfl⟩
    have heq := fun wx => run_eql_bytes (P := Try.prog) wx 24 5 32 m.key o.key Try.underlying24 Try.underlying5 (by kernel_rfl) hF0.key hG0.key
    rw [hbk] at heq
    have hst := str_eq8 yF yG
    rw [hba] at hst
    obtain ⟨B, hB⟩ : ∃ B, B = w1.heap.size := ⟨_, rfl⟩
    have hsB : ∀ {w : World}, Below B w1 w → B ≤ w.heap.size := fun h => by have := h.size; omega
    have hla := rA.lt
    have hlb := rB.lt
    have qa : ∀ wx, Below B w1 wx → Row wx ga 28 (mc m lp lc dp dc) := fun wx h => rA.below h (by omega)
    have qb : ∀ wx, Below B w1 wx → Row wx gb 28 (mc o lq ld dq dd) := fun wx h => rB.below h (by omega)
    have hBe : ∀ wx, Below B w1 wx → Below w1.heap.size w1 wx := fun wx h => by rw [← hB]; exact h
    have d1 : ∀ wx, Below B w1 wx → wx.cell? ⟨ga, 37, none⟩ = some (.slice dp m.data.length dc) := fun wx h => (qa wx h).cell.trans (mc37 hF0.key)
    have d2 : ∀ wx, Below B w1 wx → wx.cell? ⟨gb, 37, none⟩ = some (.slice dq o.data.length dd) := fun wx h => (qb wx h).cell.trans (mc37 hG0.key)
    have l1 : ∀ wx, Below B w1 wx → wx.cell? ⟨ga, 3, none⟩ = some (.slice lp m.list.length lc) := fun wx h => (qa wx h).cell.trans mc3
    have l2 : ∀ wx, Below B w1 wx → wx.cell? ⟨gb, 3, none⟩ = some (.slice lq o.list.length ld) := fun wx h => (qb wx h).cell.trans mc3
    have s1 : ∀ wx, Below B w1 wx → (convert 25 9 (.slice dp m.data.length dc)).run Try.prog wx = .ok (.string (strOfNums m.data)) wx := fun wx h => run_str wx dp _ dc m.data rfl (hF0.bytes.below (hBe wx h)) (fun h => (hF0.dnil h).2)
    have s2 : ∀ wx, Below B w1 wx → (convert 25 9 (.slice dq o.data.length dd)).run Try.prog wx = .ok (.string (strOfNums o.data)) wx := fun wx h => run_str wx dq _ dd o.data rfl (hG0.bytes.below (hBe wx h)) (fun h => (hG0.dnil h).2)
    have k1 : ∀ wx, Below B w1 wx → Calls Try.prog 27 #[.slice lp m.list.length lc, .slice lq o.list.length ld] wx fun e w' => e = .returned (.bool bl) ∧ Below wx.heap.size wx w' := fun wx h => by
      have := ints_any m.list o.list lp lq m.list.length o.list.length lc ld wx rfl rfl (by omega) (hF0.ints.below (hBe wx h) (Nat.le_refl _)) (hG0.ints.below (hBe wx h) (Nat.le_refl _))
      rwa [hbl] at this
    refine region_invFA  (by kernel_rfl) (by kernel_rfl) (fun a0 listed a w => ∃ s5 s6 s7 s13 s14 s15 s16 s17 s18 s19 s20 s21 s22 s23 s24 s25 s26 s27 s28 s29, a = (Act.put (Act.put (Act.put (Act.put (Act.put (Act.put (Act.put (Act.put (Act.put (Act.put (Act.put (Act.put (Act.put (Act.put (Act.put (Act.put (Act.put (Act.put (Act.put (Act.put a0 (some 5) s5) (some 6) s6) (some 7) s7) (some 13) s13) (some 14) s14) (some 15) s15) (some 16) s16) (some 17) s17) (some 18) s18) (some 19) s19) (some 20) s20) (some 21) s21) (some 22) s22) (some 23) s23) (some 24) s24) (some 25) s25) (some 26) s26) (some 27) s27) (some 28) s28) (some 29) s29) ∧ Below B w1 w ∧ (listed.getD 0 false = true → s13 = .pointer (some ⟨ga, 5, none⟩)) ∧ (listed.getD 1 false = true → s14 = .agg (v8 m.key)) ∧ (listed.getD 2 false = true → s15 = .pointer (some ⟨gb, 5, none⟩)) ∧ (listed.getD 3 false = true → s16 = .agg (v8 o.key)) ∧ (listed.getD 4 false = true → s17 = .bool bk) ∧ (listed.getD 5 false = true → s18 = .pointer (some ⟨ga, 37, none⟩)) ∧ (listed.getD 6 false = true → s19 = .slice dp m.data.length dc) ∧ (listed.getD 7 false = true → s20 = .string (strOfNums m.data)) ∧ (listed.getD 8 false = true → s21 = .pointer (some ⟨gb, 37, none⟩)) ∧ (listed.getD 9 false = true → s22 = .slice dq o.data.length dd) ∧ (listed.getD 10 false = true → s23 = .string (strOfNums o.data)) ∧ (listed.getD 11 false = true → s24 = .bool ba) ∧ (listed.getD 12 false = true → s25 = .pointer (some ⟨ga, 3, none⟩)) ∧ (listed.getD 13 false = true → s26 = .slice lp m.list.length lc) ∧ (listed.getD 14 false = true → s27 = .pointer (some ⟨gb, 3, none⟩)) ∧ (listed.getD 15 false = true → s28 = .slice lq o.list.length ld) ∧ (listed.getD 16 false = true → s29 = .bool bl) ∧ (listed.getD 17 false = true → s5 = .bool bk) ∧ (listed.getD 18 false = true → s6 = .bool ba) ∧ (listed.getD 19 false = true → s7 = .bool bl)) ?_ ?_ ?_
    all_goals simp only [Act.put, List.setIfInBounds_toArray, List.set_cons_succ, List.set_cons_zero]
    · exact ⟨_, _, _, _, _, _, _, _, _, _, _, _, _, _, _, _, _, _, _, _, rfl, (Below.refl B _).drew, (fun h => absurd h (by rw [getD_replicate_false]; decide)), (fun h => absurd h (by rw [getD_replicate_false]; decide)), (fun h => absurd h (by rw [getD_replicate_false]; decide)), (fun h => absurd h (by rw [getD_replicate_false]; decide)), (fun h => absurd h (by rw [getD_replicate_false]; decide)), (fun h => absurd h (by rw [getD_replicate_false]; decide)), (fun h => absurd h (by rw [getD_replicate_false]; decide)), (fun h => absurd h (by rw [getD_replicate_false]; decide)), (fun h => absurd h (by rw [getD_replicate_false]; decide)), (fun h => absurd h (by rw [getD_replicate_false]; decide)), (fun h => absurd h (by rw [getD_replicate_false]; decide)), (fun h => absurd h (by rw [getD_replicate_false]; decide)), (fun h => absurd h (by rw [getD_replicate_false]; decide)), (fun h => absurd h (by rw [getD_replicate_false]; decide)), (fun h => absurd h (by rw [getD_replicate_false]; decide)), (fun h => absurd h (by rw [getD_replicate_false]; decide)), (fun h => absurd h (by rw [getD_replicate_false]; decide)), (fun h => absurd h (by rw [getD_replicate_false]; decide)), (fun h => absurd h (by rw [getD_replicate_false]; decide)), (fun h => absurd h (by rw [getD_replicate_false]; decide))⟩
    · intro listed a w i o hls hJ hin ho hi hall hcl
      obtain ⟨s5, s6, s7, s13, s14, s15, s16, s17, s18, s19, s20, s21, s22, s23, s24, s25, s26, s27, s28, s29, rfl, hbW, c0, c1, c2, c3, c4, c5, c6, c7, c8, c9, c10, c11, c12, c13, c14, c15, c16, c17, c18, c19⟩ := hJ
      replace hin : i < 20 := hin
      rcases (by omega : i = 0 ∨ i = 1 ∨ i = 2 ∨ i = 3 ∨ i = 4 ∨ i = 5 ∨ i = 6 ∨ i = 7 ∨ i = 8 ∨ i = 9 ∨ i = 10 ∨ i = 11 ∨ i = 12 ∨ i = 13 ∨ i = 14 ∨ i = 15 ∨ i = 16 ∨ i = 17 ∨ i = 18 ∨ i = 19) with rfl | rfl | rfl | rfl | rfl | rfl | rfl | rfl | rfl | rfl | rfl | rfl | rfl | rfl | rfl | rfl | rfl | rfl | rfl | rfl
      · obtain rfl := Option.some.inj ho
        have hsz : 0 < listed.size := by rw [hls]; decide
        have hbw := hbW
        refine inv_val (w' := w) (.pointer (some ⟨ga, 5, none⟩)) rfl rfl (by kernel_rfl) ?_
        exact ⟨s5, s6, s7, (.pointer (some ⟨ga, 5, none⟩)), s14, s15, s16, s17, s18, s19, s20, s21, s22, s23, s24, s25, s26, s27, s28, s29, rfl, hbw, (fun _ => rfl), (fun h => c1 (bit_ne h (by decide))), (fun h => c2 (bit_ne h (by decide))), (fun h => c3 (bit_ne h (by decide))), (fun h => c4 (bit_ne h (by decide))), (fun h => c5 (bit_ne h (by decide))), (fun h => c6 (bit_ne h (by decide))), (fun h => c7 (bit_ne h (by decide))), (fun h => c8 (bit_ne h (by decide))), (fun h => c9 (bit_ne h (by decide))), (fun h => c10 (bit_ne h (by decide))), (fun h => c11 (bit_ne h (by decide))), (fun h => c12 (bit_ne h (by decide))), (fun h => c13 (bit_ne h (by decide))), (fun h => c14 (bit_ne h (by decide))), (fun h => c15 (bit_ne h (by decide))), (fun h => c16 (bit_ne h (by decide))), (fun h => c17 (bit_ne h (by decide))), (fun h => c18 (bit_ne h (by decide))), (fun h => c19 (bit_ne h (by decide)))⟩
      · obtain rfl := Option.some.inj ho
        have hsz : 1 < listed.size := by rw [hls]; decide
        have hdep0 : listed.getD 0 false = true := hall ⟨0, .data⟩ (by simp) (by rfl)
        obtain rfl := c0 hdep0
        have hbw := hbW
        refine inv_val (w' := w) (.agg (v8 m.key)) rfl rfl (by refine Eq.trans (exec_load_mid (P := Try.prog) 24 (.tmp 13) rfl ga 5 rfl (v8 m.key).toList _ (key_range (qa w hbW) hF0.key) Try.underlying24 rfl ia) (by simp)) ?_
        exact ⟨s5, s6, s7, (.pointer (some ⟨ga, 5, none⟩)), (.agg (v8 m.key)), s15, s16, s17, s18, s19, s20, s21, s22, s23, s24, s25, s26, s27, s28, s29, rfl, hbw, (fun h => c0 (bit_ne h (by decide))), (fun _ => rfl), (fun h => c2 (bit_ne h (by decide))), (fun h => c3 (bit_ne h (by decide))), (fun h => c4 (bit_ne h (by decide))), (fun h => c5 (bit_ne h (by decide))), (fun h => c6 (bit_ne h (by decide))), (fun h => c7 (bit_ne h (by decide))), (fun h => c8 (bit_ne h (by decide))), (fun h => c9 (bit_ne h (by decide))), (fun h => c10 (bit_ne h (by decide))), (fun h => c11 (bit_ne h (by decide))), (fun h => c12 (bit_ne h (by decide))), (fun h => c13 (bit_ne h (by decide))), (fun h => c14 (bit_ne h (by decide))), (fun h => c15 (bit_ne h (by decide))), (fun h => c16 (bit_ne h (by decide))), (fun h => c17 (bit_ne h (by decide))), (fun h => c18 (bit_ne h (by decide))), (fun h => c19 (bit_ne h (by decide)))⟩
      · obtain rfl := Option.some.inj ho
        have hsz : 2 < listed.size := by rw [hls]; decide
        have hbw := hbW
        refine inv_val (w' := w) (.pointer (some ⟨gb, 5, none⟩)) rfl rfl (by kernel_rfl) ?_
        exact ⟨s5, s6, s7, s13, s14, (.pointer (some ⟨gb, 5, none⟩)), s16, s17, s18, s19, s20, s21, s22, s23, s24, s25, s26, s27, s28, s29, rfl, hbw, (fun h => c0 (bit_ne h (by decide))), (fun h => c1 (bit_ne h (by decide))), (fun _ => rfl), (fun h => c3 (bit_ne h (by decide))), (fun h => c4 (bit_ne h (by decide))), (fun h => c5 (bit_ne h (by decide))), (fun h => c6 (bit_ne h (by decide))), (fun h => c7 (bit_ne h (by decide))), (fun h => c8 (bit_ne h (by decide))), (fun h => c9 (bit_ne h (by decide))), (fun h => c10 (bit_ne h (by decide))), (fun h => c11 (bit_ne h (by decide))), (fun h => c12 (bit_ne h (by decide))), (fun h => c13 (bit_ne h (by decide))), (fun h => c14 (bit_ne h (by decide))), (fun h => c15 (bit_ne h (by decide))), (fun h => c16 (bit_ne h (by decide))), (fun h => c17 (bit_ne h (by decide))), (fun h => c18 (bit_ne h (by decide))), (fun h => c19 (bit_ne h (by decide)))⟩
      · obtain rfl := Option.some.inj ho
        have hsz : 3 < listed.size := by rw [hls]; decide
        have hdep2 : listed.getD 2 false = true := hall ⟨2, .data⟩ (by simp) (by rfl)
        obtain rfl := c2 hdep2
        have hbw := hbW
        refine inv_val (w' := w) (.agg (v8 o.key)) rfl rfl (by refine Eq.trans (exec_load_mid (P := Try.prog) 24 (.tmp 15) rfl gb 5 rfl (v8 o.key).toList _ (key_range (qb w hbW) hG0.key) Try.underlying24 rfl ib) (by simp)) ?_
        exact ⟨s5, s6, s7, s13, s14, (.pointer (some ⟨gb, 5, none⟩)), (.agg (v8 o.key)), s17, s18, s19, s20, s21, s22, s23, s24, s25, s26, s27, s28, s29, rfl, hbw, (fun h => c0 (bit_ne h (by decide))), (fun h => c1 (bit_ne h (by decide))), (fun h => c2 (bit_ne h (by decide))), (fun _ => rfl), (fun h => c4 (bit_ne h (by decide))), (fun h => c5 (bit_ne h (by decide))), (fun h => c6 (bit_ne h (by decide))), (fun h => c7 (bit_ne h (by decide))), (fun h => c8 (bit_ne h (by decide))), (fun h => c9 (bit_ne h (by decide))), (fun h => c10 (bit_ne h (by decide))), (fun h => c11 (bit_ne h (by decide))), (fun h => c12 (bit_ne h (by decide))), (fun h => c13 (bit_ne h (by decide))), (fun h => c14 (bit_ne h (by decide))), (fun h => c15 (bit_ne h (by decide))), (fun h => c16 (bit_ne h (by decide))), (fun h => c17 (bit_ne h (by decide))), (fun h => c18 (bit_ne h (by decide))), (fun h => c19 (bit_ne h (by decide)))⟩
      · obtain rfl := Option.some.inj ho
        have hsz : 4 < listed.size := by rw [hls]; decide
        have hdep1 : listed.getD 1 false = true := hall ⟨1, .data⟩ (by simp) (by rfl)
        obtain rfl := c1 hdep1
        have hdep3 : listed.getD 3 false = true := hall ⟨3, .data⟩ (by simp) (by rfl)
        obtain rfl := c3 hdep3
        have hbw := hbW
        refine inv_val (w' := w) (.bool bk) rfl rfl (by have hq := heq w; go_simp) ?_
        exact ⟨s5, s6, s7, s13, (.agg (v8 m.key)), s15, (.agg (v8 o.key)), (.bool bk), s18, s19, s20, s21, s22, s23, s24, s25, s26, s27, s28, s29, rfl, hbw, (fun h => c0 (bit_ne h (by decide))), (fun h => c1 (bit_ne h (by decide))), (fun h => c2 (bit_ne h (by decide))), (fun h => c3 (bit_ne h (by decide))), (fun _ => rfl), (fun h => c5 (bit_ne h (by decide))), (fun h => c6 (bit_ne h (by decide))), (fun h => c7 (bit_ne h (by decide))), (fun h => c8 (bit_ne h (by decide))), (fun h => c9 (bit_ne h (by decide))), (fun h => c10 (bit_ne h (by decide))), (fun h => c11 (bit_ne h (by decide))), (fun h => c12 (bit_ne h (by decide))), (fun h => c13 (bit_ne h (by decide))), (fun h => c14 (bit_ne h (by decide))), (fun h => c15 (bit_ne h (by decide))), (fun h => c16 (bit_ne h (by decide))), (fun h => c17 (bit_ne h (by decide))), (fun h => c18 (bit_ne h (by decide))), (fun h => c19 (bit_ne h (by decide)))⟩
      · obtain rfl := Option.some.inj ho
        have hsz : 5 < listed.size := by rw [hls]; decide
        have hbw := hbW
        refine inv_val (w' := w) (.pointer (some ⟨ga, 37, none⟩)) rfl rfl (by kernel_rfl) ?_
        exact ⟨s5, s6, s7, s13, s14, s15, s16, s17, (.pointer (some ⟨ga, 37, none⟩)), s19, s20, s21, s22, s23, s24, s25, s26, s27, s28, s29, rfl, hbw, (fun h => c0 (bit_ne h (by decide))), (fun h => c1 (bit_ne h (by decide))), (fun h => c2 (bit_ne h (by decide))), (fun h => c3 (bit_ne h (by decide))), (fun h => c4 (bit_ne h (by decide))), (fun _ => rfl), (fun h => c6 (bit_ne h (by decide))), (fun h => c7 (bit_ne h (by decide))), (fun h => c8 (bit_ne h (by decide))), (fun h => c9 (bit_ne h (by decide))), (fun h => c10 (bit_ne h (by decide))), (fun h => c11 (bit_ne h (by decide))), (fun h => c12 (bit_ne h (by decide))), (fun h => c13 (bit_ne h (by decide))), (fun h => c14 (bit_ne h (by decide))), (fun h => c15 (bit_ne h (by decide))), (fun h => c16 (bit_ne h (by decide))), (fun h => c17 (bit_ne h (by decide))), (fun h => c18 (bit_ne h (by decide))), (fun h => c19 (bit_ne h (by decide)))⟩
      · obtain rfl := Option.some.inj ho
        have hsz : 6 < listed.size := by rw [hls]; decide
        have hdep5 : listed.getD 5 false = true := hall ⟨5, .data⟩ (by simp) (by rfl)
        obtain rfl := c5 hdep5
        have hbw := hbW
        refine inv_val (w' := w) (.slice dp m.data.length dc) rfl rfl (by have hq := d1 w hbW; go_simp) ?_
        exact ⟨s5, s6, s7, s13, s14, s15, s16, s17, (.pointer (some ⟨ga, 37, none⟩)), (.slice dp m.data.length dc), s20, s21, s22, s23, s24, s25, s26, s27, s28, s29, rfl, hbw, (fun h => c0 (bit_ne h (by decide))), (fun h => c1 (bit_ne h (by decide))), (fun h => c2 (bit_ne h (by decide))), (fun h => c3 (bit_ne h (by decide))), (fun h => c4 (bit_ne h (by decide))), (fun h => c5 (bit_ne h (by decide))), (fun _ => rfl), (fun h => c7 (bit_ne h (by decide))), (fun h => c8 (bit_ne h (by decide))), (fun h => c9 (bit_ne h (by decide))), (fun h => c10 (bit_ne h (by decide))), (fun h => c11 (bit_ne h (by decide))), (fun h => c12 (bit_ne h (by decide))), (fun h => c13 (bit_ne h (by decide))), (fun h => c14 (bit_ne h (by decide))), (fun h => c15 (bit_ne h (by decide))), (fun h => c16 (bit_ne h (by decide))), (fun h => c17 (bit_ne h (by decide))), (fun h => c18 (bit_ne h (by decide))), (fun h => c19 (bit_ne h (by decide)))⟩
      · obtain rfl := Option.some.inj ho
        have hsz : 7 < listed.size := by rw [hls]; decide
        have hdep6 : listed.getD 6 false = true := hall ⟨6, .data⟩ (by simp) (by rfl)
        obtain rfl := c6 hdep6
        have hbw := hbW
        refine inv_val (w' := w) (.string (strOfNums m.data)) rfl rfl (by have hq := s1 w hbW; go_simp) ?_
        exact ⟨s5, s6, s7, s13, s14, s15, s16, s17, s18, (.slice dp m.data.length dc), (.string (strOfNums m.data)), s21, s22, s23, s24, s25, s26, s27, s28, s29, rfl, hbw, (fun h => c0 (bit_ne h (by decide))), (fun h => c1 (bit_ne h (by decide))), (fun h => c2 (bit_ne h (by decide))), (fun h => c3 (bit_ne h (by decide))), (fun h => c4 (bit_ne h (by decide))), (fun h => c5 (bit_ne h (by decide))), (fun h => c6 (bit_ne h (by decide))), (fun _ => rfl), (fun h => c8 (bit_ne h (by decide))), (fun h => c9 (bit_ne h (by decide))), (fun h => c10 (bit_ne h (by decide))), (fun h => c11 (bit_ne h (by decide))), (fun h => c12 (bit_ne h (by decide))), (fun h => c13 (bit_ne h (by decide))), (fun h => c14 (bit_ne h (by decide))), (fun h => c15 (bit_ne h (by decide))), (fun h => c16 (bit_ne h (by decide))), (fun h => c17 (bit_ne h (by decide))), (fun h => c18 (bit_ne h (by decide))), (fun h => c19 (bit_ne h (by decide)))⟩
      · obtain rfl := Option.some.inj ho
        have hsz : 8 < listed.size := by rw [hls]; decide
        have hbw := hbW
        refine inv_val (w' := w) (.pointer (some ⟨gb, 37, none⟩)) rfl rfl (by kernel_rfl) ?_
        exact ⟨s5, s6, s7, s13, s14, s15, s16, s17, s18, s19, s20, (.pointer (some ⟨gb, 37, none⟩)), s22, s23, s24, s25, s26, s27, s28, s29, rfl, hbw, (fun h => c0 (bit_ne h (by decide))), (fun h => c1 (bit_ne h (by decide))), (fun h => c2 (bit_ne h (by decide))), (fun h => c3 (bit_ne h (by decide))), (fun h => c4 (bit_ne h (by decide))), (fun h => c5 (bit_ne h (by decide))), (fun h => c6 (bit_ne h (by decide))), (fun h => c7 (bit_ne h (by decide))), (fun _ => rfl), (fun h => c9 (bit_ne h (by decide))), (fun h => c10 (bit_ne h (by decide))), (fun h => c11 (bit_ne h (by decide))), (fun h => c12 (bit_ne h (by decide))), (fun h => c13 (bit_ne h (by decide))), (fun h => c14 (bit_ne h (by decide))), (fun h => c15 (bit_ne h (by decide))), (fun h => c16 (bit_ne h (by decide))), (fun h => c17 (bit_ne h (by decide))), (fun h => c18 (bit_ne h (by decide))), (fun h => c19 (bit_ne h (by decide)))⟩
      · obtain rfl := Option.some.inj ho
        have hsz : 9 < listed.size := by rw [hls]; decide
        have hdep8 : listed.getD 8 false = true := hall ⟨8, .data⟩ (by simp) (by rfl)
        obtain rfl := c8 hdep8
        have hbw := hbW
        refine inv_val (w' := w) (.slice dq o.data.length dd) rfl rfl (by have hq := d2 w hbW; go_simp) ?_
        exact ⟨s5, s6, s7, s13, s14, s15, s16, s17, s18, s19, s20, (.pointer (some ⟨gb, 37, none⟩)), (.slice dq o.data.length dd), s23, s24, s25, s26, s27, s28, s29, rfl, hbw, (fun h => c0 (bit_ne h (by decide))), (fun h => c1 (bit_ne h (by decide))), (fun h => c2 (bit_ne h (by decide))), (fun h => c3 (bit_ne h (by decide))), (fun h => c4 (bit_ne h (by decide))), (fun h => c5 (bit_ne h (by decide))), (fun h => c6 (bit_ne h (by decide))), (fun h => c7 (bit_ne h (by decide))), (fun h => c8 (bit_ne h (by decide))), (fun _ => rfl), (fun h => c10 (bit_ne h (by decide))), (fun h => c11 (bit_ne h (by decide))), (fun h => c12 (bit_ne h (by decide))), (fun h => c13 (bit_ne h (by decide))), (fun h => c14 (bit_ne h (by decide))), (fun h => c15 (bit_ne h (by decide))), (fun h => c16 (bit_ne h (by decide))), (fun h => c17 (bit_ne h (by decide))), (fun h => c18 (bit_ne h (by decide))), (fun h => c19 (bit_ne h (by decide)))⟩
      · obtain rfl := Option.some.inj ho
        have hsz : 10 < listed.size := by rw [hls]; decide
        have hdep9 : listed.getD 9 false = true := hall ⟨9, .data⟩ (by simp) (by rfl)
        obtain rfl := c9 hdep9
        have hbw := hbW
        refine inv_val (w' := w) (.string (strOfNums o.data)) rfl rfl (by have hq := s2 w hbW; go_simp) ?_
        exact ⟨s5, s6, s7, s13, s14, s15, s16, s17, s18, s19, s20, s21, (.slice dq o.data.length dd), (.string (strOfNums o.data)), s24, s25, s26, s27, s28, s29, rfl, hbw, (fun h => c0 (bit_ne h (by decide))), (fun h => c1 (bit_ne h (by decide))), (fun h => c2 (bit_ne h (by decide))), (fun h => c3 (bit_ne h (by decide))), (fun h => c4 (bit_ne h (by decide))), (fun h => c5 (bit_ne h (by decide))), (fun h => c6 (bit_ne h (by decide))), (fun h => c7 (bit_ne h (by decide))), (fun h => c8 (bit_ne h (by decide))), (fun h => c9 (bit_ne h (by decide))), (fun _ => rfl), (fun h => c11 (bit_ne h (by decide))), (fun h => c12 (bit_ne h (by decide))), (fun h => c13 (bit_ne h (by decide))), (fun h => c14 (bit_ne h (by decide))), (fun h => c15 (bit_ne h (by decide))), (fun h => c16 (bit_ne h (by decide))), (fun h => c17 (bit_ne h (by decide))), (fun h => c18 (bit_ne h (by decide))), (fun h => c19 (bit_ne h (by decide)))⟩
      · obtain rfl := Option.some.inj ho
        have hsz : 11 < listed.size := by rw [hls]; decide
        have hdep7 : listed.getD 7 false = true := hall ⟨7, .data⟩ (by simp) (by rfl)
        obtain rfl := c7 hdep7
        have hdep10 : listed.getD 10 false = true := hall ⟨10, .data⟩ (by simp) (by rfl)
        obtain rfl := c10 hdep10
        have hbw := hbW
        refine inv_val (w' := w) (.bool ba) rfl rfl (by go_simp) ?_
        exact ⟨s5, s6, s7, s13, s14, s15, s16, s17, s18, s19, (.string (strOfNums m.data)), s21, s22, (.string (strOfNums o.data)), (.bool ba), s25, s26, s27, s28, s29, rfl, hbw, (fun h => c0 (bit_ne h (by decide))), (fun h => c1 (bit_ne h (by decide))), (fun h => c2 (bit_ne h (by decide))), (fun h => c3 (bit_ne h (by decide))), (fun h => c4 (bit_ne h (by decide))), (fun h => c5 (bit_ne h (by decide))), (fun h => c6 (bit_ne h (by decide))), (fun h => c7 (bit_ne h (by decide))), (fun h => c8 (bit_ne h (by decide))), (fun h => c9 (bit_ne h (by decide))), (fun h => c10 (bit_ne h (by decide))), (fun _ => rfl), (fun h => c12 (bit_ne h (by decide))), (fun h => c13 (bit_ne h (by decide))), (fun h => c14 (bit_ne h (by decide))), (fun h => c15 (bit_ne h (by decide))), (fun h => c16 (bit_ne h (by decide))), (fun h => c17 (bit_ne h (by decide))), (fun h => c18 (bit_ne h (by decide))), (fun h => c19 (bit_ne h (by decide)))⟩
      · obtain rfl := Option.some.inj ho
        have hsz : 12 < listed.size := by rw [hls]; decide
        have hbw := hbW
        refine inv_val (w' := w) (.pointer (some ⟨ga, 3, none⟩)) rfl rfl (by kernel_rfl) ?_
        exact ⟨s5, s6, s7, s13, s14, s15, s16, s17, s18, s19, s20, s21, s22, s23, s24, (.pointer (some ⟨ga, 3, none⟩)), s26, s27, s28, s29, rfl, hbw, (fun h => c0 (bit_ne h (by decide))), (fun h => c1 (bit_ne h (by decide))), (fun h => c2 (bit_ne h (by decide))), (fun h => c3 (bit_ne h (by decide))), (fun h => c4 (bit_ne h (by decide))), (fun h => c5 (bit_ne h (by decide))), (fun h => c6 (bit_ne h (by decide))), (fun h => c7 (bit_ne h (by decide))), (fun h => c8 (bit_ne h (by decide))), (fun h => c9 (bit_ne h (by decide))), (fun h => c10 (bit_ne h (by decide))), (fun h => c11 (bit_ne h (by decide))), (fun _ => rfl), (fun h => c13 (bit_ne h (by decide))), (fun h => c14 (bit_ne h (by decide))), (fun h => c15 (bit_ne h (by decide))), (fun h => c16 (bit_ne h (by decide))), (fun h => c17 (bit_ne h (by decide))), (fun h => c18 (bit_ne h (by decide))), (fun h => c19 (bit_ne h (by decide)))⟩
      · obtain rfl := Option.some.inj ho
        have hsz : 13 < listed.size := by rw [hls]; decide
        have hdep12 : listed.getD 12 false = true := hall ⟨12, .data⟩ (by simp) (by rfl)
        obtain rfl := c12 hdep12
        have hbw := hbW
        refine inv_val (w' := w) (.slice lp m.list.length lc) rfl rfl (by have hq := l1 w hbW; go_simp) ?_
        exact ⟨s5, s6, s7, s13, s14, s15, s16, s17, s18, s19, s20, s21, s22, s23, s24, (.pointer (some ⟨ga, 3, none⟩)), (.slice lp m.list.length lc), s27, s28, s29, rfl, hbw, (fun h => c0 (bit_ne h (by decide))), (fun h => c1 (bit_ne h (by decide))), (fun h => c2 (bit_ne h (by decide))), (fun h => c3 (bit_ne h (by decide))), (fun h => c4 (bit_ne h (by decide))), (fun h => c5 (bit_ne h (by decide))), (fun h => c6 (bit_ne h (by decide))), (fun h => c7 (bit_ne h (by decide))), (fun h => c8 (bit_ne h (by decide))), (fun h => c9 (bit_ne h (by decide))), (fun h => c10 (bit_ne h (by decide))), (fun h => c11 (bit_ne h (by decide))), (fun h => c12 (bit_ne h (by decide))), (fun _ => rfl), (fun h => c14 (bit_ne h (by decide))), (fun h => c15 (bit_ne h (by decide))), (fun h => c16 (bit_ne h (by decide))), (fun h => c17 (bit_ne h (by decide))), (fun h => c18 (bit_ne h (by decide))), (fun h => c19 (bit_ne h (by decide)))⟩
      · obtain rfl := Option.some.inj ho
        have hsz : 14 < listed.size := by rw [hls]; decide
        have hbw := hbW
        refine inv_val (w' := w) (.pointer (some ⟨gb, 3, none⟩)) rfl rfl (by kernel_rfl) ?_
        exact ⟨s5, s6, s7, s13, s14, s15, s16, s17, s18, s19, s20, s21, s22, s23, s24, s25, s26, (.pointer (some ⟨gb, 3, none⟩)), s28, s29, rfl, hbw, (fun h => c0 (bit_ne h (by decide))), (fun h => c1 (bit_ne h (by decide))), (fun h => c2 (bit_ne h (by decide))), (fun h => c3 (bit_ne h (by decide))), (fun h => c4 (bit_ne h (by decide))), (fun h => c5 (bit_ne h (by decide))), (fun h => c6 (bit_ne h (by decide))), (fun h => c7 (bit_ne h (by decide))), (fun h => c8 (bit_ne h (by decide))), (fun h => c9 (bit_ne h (by decide))), (fun h => c10 (bit_ne h (by decide))), (fun h => c11 (bit_ne h (by decide))), (fun h => c12 (bit_ne h (by decide))), (fun h => c13 (bit_ne h (by decide))), (fun _ => rfl), (fun h => c15 (bit_ne h (by decide))), (fun h => c16 (bit_ne h (by decide))), (fun h => c17 (bit_ne h (by decide))), (fun h => c18 (bit_ne h (by decide))), (fun h => c19 (bit_ne h (by decide)))⟩
      · obtain rfl := Option.some.inj ho
        have hsz : 15 < listed.size := by rw [hls]; decide
        have hdep14 : listed.getD 14 false = true := hall ⟨14, .data⟩ (by simp) (by rfl)
        obtain rfl := c14 hdep14
        have hbw := hbW
        refine inv_val (w' := w) (.slice lq o.list.length ld) rfl rfl (by have hq := l2 w hbW; go_simp) ?_
        exact ⟨s5, s6, s7, s13, s14, s15, s16, s17, s18, s19, s20, s21, s22, s23, s24, s25, s26, (.pointer (some ⟨gb, 3, none⟩)), (.slice lq o.list.length ld), s29, rfl, hbw, (fun h => c0 (bit_ne h (by decide))), (fun h => c1 (bit_ne h (by decide))), (fun h => c2 (bit_ne h (by decide))), (fun h => c3 (bit_ne h (by decide))), (fun h => c4 (bit_ne h (by decide))), (fun h => c5 (bit_ne h (by decide))), (fun h => c6 (bit_ne h (by decide))), (fun h => c7 (bit_ne h (by decide))), (fun h => c8 (bit_ne h (by decide))), (fun h => c9 (bit_ne h (by decide))), (fun h => c10 (bit_ne h (by decide))), (fun h => c11 (bit_ne h (by decide))), (fun h => c12 (bit_ne h (by decide))), (fun h => c13 (bit_ne h (by decide))), (fun h => c14 (bit_ne h (by decide))), (fun _ => rfl), (fun h => c16 (bit_ne h (by decide))), (fun h => c17 (bit_ne h (by decide))), (fun h => c18 (bit_ne h (by decide))), (fun h => c19 (bit_ne h (by decide)))⟩
      · obtain rfl := Option.some.inj ho
        have hsz : 16 < listed.size := by rw [hls]; decide
        have hdep13 : listed.getD 13 false = true := hall ⟨13, .data⟩ (by simp) (by rfl)
        obtain rfl := c13 hdep13
        have hdep15 : listed.getD 15 false = true := hall ⟨15, .data⟩ (by simp) (by rfl)
        obtain rfl := c15 hdep15
        refine inv_call 27 #[.slice lp m.list.length lc, .slice lq o.list.length ld] _ rfl rfl (by kernel_rfl) (k1 w hbW) ?_
        rintro e w' ⟨rfl, hb⟩
        have hbw : Below B w1 w' := hbW.trans (hb.mono (hsB hbW))
        refine ⟨_, rfl, ?_⟩
        exact ⟨s5, s6, s7, s13, s14, s15, s16, s17, s18, s19, s20, s21, s22, s23, s24, s25, (.slice lp m.list.length lc), s27, (.slice lq o.list.length ld), (.bool bl), rfl, hbw, (fun h => c0 (bit_ne h (by decide))), (fun h => c1 (bit_ne h (by decide))), (fun h => c2 (bit_ne h (by decide))), (fun h => c3 (bit_ne h (by decide))), (fun h => c4 (bit_ne h (by decide))), (fun h => c5 (bit_ne h (by decide))), (fun h => c6 (bit_ne h (by decide))), (fun h => c7 (bit_ne h (by decide))), (fun h => c8 (bit_ne h (by decide))), (fun h => c9 (bit_ne h (by decide))), (fun h => c10 (bit_ne h (by decide))), (fun h => c11 (bit_ne h (by decide))), (fun h => c12 (bit_ne h (by decide))), (fun h => c13 (bit_ne h (by decide))), (fun h => c14 (bit_ne h (by decide))), (fun h => c15 (bit_ne h (by decide))), (fun _ => rfl), (fun h => c17 (bit_ne h (by decide))), (fun h => c18 (bit_ne h (by decide))), (fun h => c19 (bit_ne h (by decide)))⟩
      · obtain rfl := Option.some.inj ho
        have hsz : 17 < listed.size := by rw [hls]; decide
        have hdep4 : listed.getD 4 false = true := hall ⟨4, .data⟩ (by simp) (by rfl)
        obtain rfl := c4 hdep4
        have hbw := hbW
        refine inv_val (w' := w) (.bool bk) rfl rfl rfl ?_
        exact ⟨(.bool bk), s6, s7, s13, s14, s15, s16, (.bool bk), s18, s19, s20, s21, s22, s23, s24, s25, s26, s27, s28, s29, rfl, hbw, (fun h => c0 (bit_ne h (by decide))), (fun h => c1 (bit_ne h (by decide))), (fun h => c2 (bit_ne h (by decide))), (fun h => c3 (bit_ne h (by decide))), (fun h => c4 (bit_ne h (by decide))), (fun h => c5 (bit_ne h (by decide))), (fun h => c6 (bit_ne h (by decide))), (fun h => c7 (bit_ne h (by decide))), (fun h => c8 (bit_ne h (by decide))), (fun h => c9 (bit_ne h (by decide))), (fun h => c10 (bit_ne h (by decide))), (fun h => c11 (bit_ne h (by decide))), (fun h => c12 (bit_ne h (by decide))), (fun h => c13 (bit_ne h (by decide))), (fun h => c14 (bit_ne h (by decide))), (fun h => c15 (bit_ne h (by decide))), (fun h => c16 (bit_ne h (by decide))), (fun _ => rfl), (fun h => c18 (bit_ne h (by decide))), (fun h => c19 (bit_ne h (by decide)))⟩
      · obtain rfl := Option.some.inj ho
        have hsz : 18 < listed.size := by rw [hls]; decide
        have hdep11 : listed.getD 11 false = true := hall ⟨11, .data⟩ (by simp) (by rfl)
        obtain rfl := c11 hdep11
        have hbw := hbW
        refine inv_val (w' := w) (.bool ba) rfl rfl rfl ?_
        exact ⟨s5, (.bool ba), s7, s13, s14, s15, s16, s17, s18, s19, s20, s21, s22, s23, (.bool ba), s25, s26, s27, s28, s29, rfl, hbw, (fun h => c0 (bit_ne h (by decide))), (fun h => c1 (bit_ne h (by decide))), (fun h => c2 (bit_ne h (by decide))), (fun h => c3 (bit_ne h (by decide))), (fun h => c4 (bit_ne h (by decide))), (fun h => c5 (bit_ne h (by decide))), (fun h => c6 (bit_ne h (by decide))), (fun h => c7 (bit_ne h (by decide))), (fun h => c8 (bit_ne h (by decide))), (fun h => c9 (bit_ne h (by decide))), (fun h => c10 (bit_ne h (by decide))), (fun h => c11 (bit_ne h (by decide))), (fun h => c12 (bit_ne h (by decide))), (fun h => c13 (bit_ne h (by decide))), (fun h => c14 (bit_ne h (by decide))), (fun h => c15 (bit_ne h (by decide))), (fun h => c16 (bit_ne h (by decide))), (fun h => c17 (bit_ne h (by decide))), (fun _ => rfl), (fun h => c19 (bit_ne h (by decide)))⟩
      · obtain rfl := Option.some.inj ho
        have hsz : 19 < listed.size := by rw [hls]; decide
        have hdep16 : listed.getD 16 false = true := hall ⟨16, .data⟩ (by simp) (by rfl)
        obtain rfl := c16 hdep16
        have hbw := hbW
        refine inv_val (w' := w) (.bool bl) rfl rfl rfl ?_
        exact ⟨s5, s6, (.bool bl), s13, s14, s15, s16, s17, s18, s19, s20, s21, s22, s23, s24, s25, s26, s27, s28, (.bool bl), rfl, hbw, (fun h => c0 (bit_ne h (by decide))), (fun h => c1 (bit_ne h (by decide))), (fun h => c2 (bit_ne h (by decide))), (fun h => c3 (bit_ne h (by decide))), (fun h => c4 (bit_ne h (by decide))), (fun h => c5 (bit_ne h (by decide))), (fun h => c6 (bit_ne h (by decide))), (fun h => c7 (bit_ne h (by decide))), (fun h => c8 (bit_ne h (by decide))), (fun h => c9 (bit_ne h (by decide))), (fun h => c10 (bit_ne h (by decide))), (fun h => c11 (bit_ne h (by decide))), (fun h => c12 (bit_ne h (by decide))), (fun h => c13 (bit_ne h (by decide))), (fun h => c14 (bit_ne h (by decide))), (fun h => c15 (bit_ne h (by decide))), (fun h => c16 (bit_ne h (by decide))), (fun h => c17 (bit_ne h (by decide))), (fun h => c18 (bit_ne h (by decide))), (fun _ => rfl)⟩
    · intro listed a w hall hJ
      obtain ⟨s5, s6, s7, s13, s14, s15, s16, s17, s18, s19, s20, s21, s22, s23, s24, s25, s26, s27, s28, s29, rfl, hbW, c0, c1, c2, c3, c4, c5, c6, c7, c8, c9, c10, c11, c12, c13, c14, c15, c16, c17, c18, c19⟩ := hJ
      obtain rfl := c0 (hall 0 (by decide))
      obtain rfl := c1 (hall 1 (by decide))
      obtain rfl := c2 (hall 2 (by decide))
      obtain rfl := c3 (hall 3 (by decide))
      obtain rfl := c4 (hall 4 (by decide))
      obtain rfl := c5 (hall 5 (by decide))
      obtain rfl := c6 (hall 6 (by decide))
      obtain rfl := c7 (hall 7 (by decide))
      obtain rfl := c8 (hall 8 (by decide))
      obtain rfl := c9 (hall 9 (by decide))
      obtain rfl := c10 (hall 10 (by decide))
      obtain rfl := c11 (hall 11 (by decide))
      obtain rfl := c12 (hall 12 (by decide))
      obtain rfl := c13 (hall 13 (by decide))
      obtain rfl := c14 (hall 14 (by decide))
      obtain rfl := c15 (hall 15 (by decide))
      obtain rfl := c16 (hall 16 (by decide))
      obtain rfl := c17 (hall 17 (by decide))
      obtain rfl := c18 (hall 18 (by decide))
      obtain rfl := c19 (hall 19 (by decide))
      have b2 := hb0.trans ((hBe _ hbW).mono hb0.size)
      have qA := qa _ hbW
      have qB := qb _ hbW
      clear hall c0 c1 c2 c3 c4 c5 c6 c7 c8 c9 c10 c11 c12 c13 c14 c15 c16 c17 c18 c19 hbW d1 d2 l1 l2 s1 s2 k1 qa qb hsB hBe hB hla hlb listed
      generalize w = w2 at *
      have hkF := hF0.key
      have hkG := hG0.key
      have a0 : w2.cell? ⟨ga, 0, none⟩ = some (.int .i64 m.kind) := qA.cell.trans mc0
      have a1 : w2.cell? ⟨ga, 1, none⟩ = some (.int .i64 m.node) := qA.cell.trans mc1
      have a2 : w2.cell? ⟨ga, 2, none⟩ = some (.int .i64 m.pred) := qA.cell.trans mc2
      have a4 : w2.cell? ⟨ga, 4, none⟩ = some (.bool m.done) := qA.cell.trans mc4
      have a38 : w2.cell? ⟨ga, 38, none⟩ = some (.int .i64 m.lease) := qA.cell.trans (mc38 hkF)
      have a39 : w2.cell? ⟨ga, 39, none⟩ = some (.int .i64 m.err) := qA.cell.trans (mc39 hkF)
      have b1' : w2.cell? ⟨gb, 1, none⟩ = some (.int .i64 o.node) := qB.cell.trans mc1
      have b2' : w2.cell? ⟨gb, 2, none⟩ = some (.int .i64 o.pred) := qB.cell.trans mc2
      have b4' : w2.cell? ⟨gb, 4, none⟩ = some (.bool o.done) := qB.cell.trans mc4
      have b38' : w2.cell? ⟨gb, 38, none⟩ = some (.int .i64 o.lease) := qB.cell.trans (mc38 hkG)
      have b39' : w2.cell? ⟨gb, 39, none⟩ = some (.int .i64 o.err) := qB.cell.trans (mc39 hkG)
      obtain ⟨bp, hbp⟩ : ∃ b, (m.pred == o.pred) = b := ⟨_, rfl⟩
      obtain ⟨bn, hbn⟩ : ∃ b, (m.node == o.node) = b := ⟨_, rfl⟩
      obtain ⟨bd, hbd⟩ : ∃ b, (m.done == o.done) = b := ⟨_, rfl⟩
      obtain ⟨be, hbe⟩ : ∃ b, (m.err == o.err) = b := ⟨_, rfl⟩
      obtain ⟨bt, hbt⟩ : ∃ b, (m.lease == o.lease) = b := ⟨_, rfl⟩
      have hS : sameM m o = ((rowOf m.kind).getD []).all fun p => partS p m o := by rw [sameM, hkb]; rfl
      rw [hS] at hR
      clear rA rB cA cB hF0 hG0 ia ib ta tb heq hst qA qB hS hkb hkk yF yG
      by_cases h2 : m.kind = 2
      · have hf : R = (bp && (bl && (true))) := by rw [← hR, h2, ← hbp, ← hbl]; rfl
        rw [h2] at a0
        clear hR hbk hba hbl
        cases bp
        · have hf2 : R = false := by rw [hf]; simp
          clear hf
          subst hf2
          go_wp2
          go_ret
          exact ⟨rfl, b2⟩
        · skip
          cases bl
          · have hf2 : R = false := by rw [hf]; simp
            clear hf
            subst hf2
            go_wp2
            go_ret
            exact ⟨rfl, b2⟩
          · have hf2 : R = true := by rw [hf]; rfl
            clear hf
            subst hf2
            go_wp2
            go_ret
            exact ⟨rfl, b2⟩
      have n2 : (m.kind == 2) = false := by simpa using h2
      by_cases h3 : m.kind = 3
      · have hf : R = (bn && (true)) := by rw [← hR, h3, ← hbn]; rfl
        rw [h3] at a0
        clear hR hbk hba hbl
        cases bn
        · have hf2 : R = false := by rw [hf]; simp
          clear hf
          subst hf2
          go_wp2
          go_ret
          exact ⟨rfl, b2⟩
        · have hf2 : R = true := by rw [hf]; rfl
          clear hf
          subst hf2
          go_wp2
          go_ret
          exact ⟨rfl, b2⟩
      have n3 : (m.kind == 3) = false := by simpa using h3
      by_cases h4 : m.kind = 4
      · have hf : R = (be && (true)) := by rw [← hR, h4, ← hbe]; rfl
        rw [h4] at a0
        clear hR hbk hba hbl
        cases be
        · have hf2 : R = false := by rw [hf]; simp
          clear hf
          subst hf2
          go_wp2
          go_ret
          exact ⟨rfl, b2⟩
        · have hf2 : R = true := by rw [hf]; rfl
          clear hf
          subst hf2
          go_wp2
          go_ret
          exact ⟨rfl, b2⟩
      have n4 : (m.kind == 4) = false := by simpa using h4
      by_cases h5 : m.kind = 5
      · have hf : R = (bk && (true)) := by rw [← hR, h5, ← hbk]; rfl
        rw [h5] at a0
        clear hR hbk hba hbl
        cases bk
        · have hf2 : R = false := by rw [hf]; simp
          clear hf
          subst hf2
          go_wp2
          go_ret
          exact ⟨rfl, b2⟩
        · have hf2 : R = true := by rw [hf]; rfl
          clear hf
          subst hf2
          go_wp2
          go_ret
          exact ⟨rfl, b2⟩
      have n5 : (m.kind == 5) = false := by simpa using h5
      by_cases h7 : m.kind = 7
      · have hf : R = (bk && (true)) := by rw [← hR, h7, ← hbk]; rfl
        rw [h7] at a0
        clear hR hbk hba hbl
        cases bk
        · have hf2 : R = false := by rw [hf]; simp
          clear hf
          subst hf2
          go_wp2
          go_ret
          exact ⟨rfl, b2⟩
        · have hf2 : R = true := by rw [hf]; rfl
          clear hf
          subst hf2
          go_wp2
          go_ret
          exact ⟨rfl, b2⟩
      have n7 : (m.kind == 7) = false := by simpa using h7
      by_cases h11 : m.kind = 11
      · have hf : R = (bk && (true)) := by rw [← hR, h11, ← hbk]; rfl
        rw [h11] at a0
        clear hR hbk hba hbl
        cases bk
        · have hf2 : R = false := by rw [hf]; simp
          clear hf
          subst hf2
          go_wp2
          go_ret
          exact ⟨rfl, b2⟩
        · have hf2 : R = true := by rw [hf]; rfl
          clear hf
          subst hf2
          go_wp2
          go_ret
          exact ⟨rfl, b2⟩
      have n11 : (m.kind == 11) = false := by simpa using h11
      by_cases h6 : m.kind = 6
      · have hf : R = (bd && (bl && (true))) := by rw [← hR, h6, ← hbd, ← hbl]; rfl
        rw [h6] at a0
        clear hR hbk hba hbl
        cases bd
        · have hf2 : R = false := by rw [hf]; simp
          clear hf
          subst hf2
          go_wp2
          go_ret
          exact ⟨rfl, b2⟩
        · skip
          cases bl
          · have hf2 : R = false := by rw [hf]; simp
            clear hf
            subst hf2
            go_wp2
            go_ret
            exact ⟨rfl, b2⟩
          · have hf2 : R = true := by rw [hf]; rfl
            clear hf
            subst hf2
            go_wp2
            go_ret
            exact ⟨rfl, b2⟩
      have n6 : (m.kind == 6) = false := by simpa using h6
      by_cases h8 : m.kind = 8
      · have hf : R = (be && (ba && (true))) := by rw [← hR, h8, ← hbe, ← hba]; rfl
        rw [h8] at a0
        clear hR hbk hba hbl
        cases be
        · have hf2 : R = false := by rw [hf]; simp
          clear hf
          subst hf2
          go_wp2
          go_ret
          exact ⟨rfl, b2⟩
        · skip
          cases ba
          · have hf2 : R = false := by rw [hf]; simp
            clear hf
            subst hf2
            go_wp2
            go_ret
            exact ⟨rfl, b2⟩
          · have hf2 : R = true := by rw [hf]; rfl
            clear hf
            subst hf2
            go_wp2
            go_ret
            exact ⟨rfl, b2⟩
      have n8 : (m.kind == 8) = false := by simpa using h8
      by_cases h9 : m.kind = 9
      · have hf : R = (bk && (ba && (bn && (bt && (true))))) := by rw [← hR, h9, ← hbk, ← hba, ← hbn, ← hbt]; rfl
        rw [h9] at a0
        clear hR hbk hba hbl
        cases bk
        · have hf2 : R = false := by rw [hf]; simp
          clear hf
          subst hf2
          go_wp2
          go_ret
          exact ⟨rfl, b2⟩
        · skip
          cases ba
          · have hf2 : R = false := by rw [hf]; simp
            clear hf
            subst hf2
            go_wp2
            go_ret
            exact ⟨rfl, b2⟩
          · skip
            cases bn
            · have hf2 : R = false := by rw [hf]; simp
              clear hf
              subst hf2
              go_wp2
              go_ret
              exact ⟨rfl, b2⟩
            · skip
              cases bt
              · have hf2 : R = false := by rw [hf]; simp
                clear hf
                subst hf2
                go_wp2
                go_ret
                exact ⟨rfl, b2⟩
              · have hf2 : R = true := by rw [hf]; rfl
                clear hf
                subst hf2
                go_wp2
                go_ret
                exact ⟨rfl, b2⟩
      have n9 : (m.kind == 9) = false := by simpa using h9
      by_cases h10 : m.kind = 10
      · have hf : R = (bk && (ba && (true))) := by rw [← hR, h10, ← hbk, ← hba]; rfl
        rw [h10] at a0
        clear hR hbk hba hbl
        cases bk
        · have hf2 : R = false := by rw [hf]; simp
          clear hf
          subst hf2
          go_wp2
          go_ret
          exact ⟨rfl, b2⟩
        · skip
          cases ba
          · have hf2 : R = false := by rw [hf]; simp
            clear hf
            subst hf2
            go_wp2
            go_ret
            exact ⟨rfl, b2⟩
          · have hf2 : R = true := by rw [hf]; rfl
            clear hf
            subst hf2
            go_wp2
            go_ret
            exact ⟨rfl, b2⟩
      have n10 : (m.kind == 10) = false := by simpa using h10
      by_cases h12 : m.kind = 12
      · have hf : R = (ba && (bn && (bt && (true)))) := by rw [← hR, h12, ← hba, ← hbn, ← hbt]; rfl
        rw [h12] at a0
        clear hR hbk hba hbl
        cases ba
        · have hf2 : R = false := by rw [hf]; simp
          clear hf
          subst hf2
          go_wp2
          go_ret
          exact ⟨rfl, b2⟩
        · skip
          cases bn
          · have hf2 : R = false := by rw [hf]; simp
            clear hf
            subst hf2
            go_wp2
            go_ret
            exact ⟨rfl, b2⟩
          · skip
            cases bt
            · have hf2 : R = false := by rw [hf]; simp
              clear hf
              subst hf2
              go_wp2
              go_ret
              exact ⟨rfl, b2⟩
            · have hf2 : R = true := by rw [hf]; rfl
              clear hf
              subst hf2
              go_wp2
              go_ret
              exact ⟨rfl, b2⟩
      have n12 : (m.kind == 12) = false := by simpa using h12
      have hrow : (rowOf m.kind).getD [] = [] := by
        unfold rowOf
        by_cases h1 : m.kind = 1
        · rw [if_pos h1]; rfl
        · simp [h1, h2, h3, h4, h5, h6, h7, h8, h9, h10, h11, h12]
      have hf2 : R = true := by rw [← hR, hrow]; rfl
      clear hR hrow h2 h3 h4 h5 h7 h11 h6 h8 h9 h10 h12 hbk hba hbl
      subst hf2
      go_wp2
      go_ret
      exact ⟨rfl, b2⟩
  · have hkb : (m.kind == o.kind) = false := by simpa using hkk
    have hS : sameM m o = false := by rw [sameM, hkb]; rfl
    rw [hS]
    rw [hga] at rA
    rw [hga, hgb] at rB
    have cA := rA.cell.trans mc0
    have cB := rB.cell.trans mc0
    clear hF hG yF yG hll hS hkk hF0 hG0
    go_enter Try.func14, Try.ntmps14
    go_upto_region 1 with fail
    change Code.wp _ _ _ _ (World.alloc (World.alloc w (.cells (mc m lp lc dp dc) 28)) (.cells (mc o lq ld dq dd) 28))
    generalize (World.alloc (World.alloc w (.cells (mc m lp lc dp dc) 28)) (.cells (mc o lq ld dq dd) 28)) = w1 at *
    try simp only [hga, hgb]
    go_wp2
    go_ret
    exact ⟨rfl, hb0⟩
end Go.Proofs.Ytcdmjjlbeifgjaa
