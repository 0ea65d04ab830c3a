/- Clone and ParseRoot: bytes that begin as a root's block does. No old memory turns. -/
import Derived.Test.YtgcffdnbihfghaaRoot
import Derived.Test.YtgcffdnbihfghaaIds
import Derived.Test.YtgcffdnbihfghaaParse
import Derived.Lib.SliceRun
namespace Go.Proofs.Ytgcffdnbihfghaa
open Go Go.RowKit
set_option maxRecDepth 20000 in
set_option maxHeartbeats 1000000 in
theorem clone_any (b : List Int) (pb po n cap : Nat) (w : World) (hn : b.length = n) (hm : n ≤ 1000000) (hby : Bytes w (some ⟨pb, po, none⟩) b) :
    Calls Try.prog 46 #[.slice (some ⟨pb, po, none⟩) n cap] w fun e w' => ∃ sp cp, e = .returned (.slice sp n cp) ∧ Own8 w' w.heap.size 5 (.slice sp n cp) b ∧ Below w.heap.size w w' := by
  have o0 : Own8 (w.alloc (.cells #[] 5)) w.heap.size 5 (.slice (some ⟨w.heap.size, 0, none⟩) 0 0) [] := own8_lit w _ (Nat.le_refl _)
  have b0 : Below w.heap.size w (w.alloc (.cells #[] 5)) := (Below.refl _ _).alloc (Nat.le_refl _) _
  have heq : (binOp .eql 27 (.slice (some ⟨pb, po, none⟩) n cap) (.slice none 0 0)).run Try.prog w = .ok (.bool false) w := Lib.run_eql_slice_nil w 27 5 (some ⟨pb, po, none⟩) _ _ 0 0 Try.underlying27
  go_enter Try.func46, Try.ntmps46
  go_wp2_with (at_builtin; (refine append8g (.tmp 5) (.tmp 6) 27 5 (by rfl) (by rfl) w.heap.size Try.underlying27 info5 (.slice (some ⟨w.heap.size, 0, none⟩) 0 0) [] (by rfl) ?ho (some ⟨pb, po, none⟩) n cap b (by rfl) hn ?hnil ?hby ?hlen ?hB ?_; (case ho => exact o0); (case hnil => exact fun h => by cases h); (case hby => exact hby.below b0); (case hlen => simp; omega); (case hB => exact b0.size); rw [List.nil_append, hn]; intro sp1 cap1 w1 o1 b1 g1))
  go_ret
  exact ⟨sp1, cap1, rfl, o1, b0.trans b1⟩
def zrc : Array Value := rc (.slice none 0 0) 0 (zer 32) (.slice none 0 0)
theorem rc_one (p s : Value) (v : Int) (t : List Int) (hp : p.oneCell' = true) (hs : s.oneCell' = true) : (rc p v t s).all (·.oneCell') = true := by
  have hu : ∀ x, (Value.int .u8 x).oneCell' = true := fun _ => rfl
  have hi : ∀ x, (Value.int .i64 x).oneCell' = true := fun _ => rfl
  simp [rc, hp, hs, hu, hi]
def AggS (s : Value) : Prop := ∃ RC : Array Value, s = .agg RC ∧ RC.size = 35 ∧ RC.all (·.oneCell') = true
def VarX (w : World) (B : Nat) (s : Value) : Prop := ∃ b, s = .pointer (some ⟨b, 0, none⟩) ∧ Row w b 70 zrc ∧ B ≤ b
def VarY (w : World) (B : Nat) (s : Value) : Prop := ∃ b RC, s = .pointer (some ⟨b, 0, none⟩) ∧ Row w b 70 RC ∧ RC.size = 35 ∧ RC.all (·.oneCell') = true ∧ B ≤ b
theorem VarX.alloc {w : World} {B : Nat} {s : Value} (h : VarX w B s) (o : Obj) : VarX (w.alloc o) B s := by
  obtain ⟨b, rfl, h, hb⟩ := h
  exact ⟨b, rfl, h.alloc o, hb⟩
theorem VarX.below {w w' : World} {B : Nat} {s : Value} (h : VarX w B s) (hb : Below w.heap.size w w') : VarX w' B s := by
  obtain ⟨b, rfl, h, h2⟩ := h
  exact ⟨b, rfl, h.below hb h.lt, h2⟩
theorem VarX.new (w : World) (B : Nat) (hB : B ≤ w.heap.size) : VarX (w.alloc (.cells zrc 70)) B (.pointer (some ⟨w.heap.size, 0, none⟩)) := ⟨_, rfl, Row.new _ _ _, hB⟩
theorem inv_storex {P : Program} {ops : Array Oper} {Q : Exit → Act → World → Prop} {i : Nat} {o : Oper} {K : Act → World → Prop} {a : Act} {w : World} (ty : TypeId) (x y : Operand) (ho : ops[i]? = some o) (hop : o.op = .store ty x y) (hg : o.guard = none) (hd : o.dst = none)
    (b : Nat) (cs : Array Value) (hx : a.eval x = .pointer (some ⟨b, 0, none⟩)) (hy : a.eval y = .agg cs) (T : TypeId) (z : Array Value) (hr : Row w b T z) (hi : (P.info? ty).map (·.size) = some cs.size) (hl : z.size = cs.size) (h1 : cs.all (·.oneCell') = true)
    (h : K a (w.setRow b cs)) : wpOp P ops Q i K a w := by
  refine inv_op ho hg ?_
  have h1 := Go.run_storeVar_row (P := P) w b T ty z cs hr hi hl h1
  unfold Oper.wp execOp
  simp only [hop, hx, hy, Instr.storeAt, Instr.sureAddr, Sem.run_bind, Sem.run_pure, Result.andThen_ok, h1]
  rw [← show a.put o.dst undef = a by rw [hd]; rfl] at h
  exact h
theorem copy_rc {w : World} {ops : Array Oper} {rest : List Oper} {o : Oper} {a : Act} {Q : Exit → Act → World → Prop} (d s : Operand)
    (ho : o.op = .call { callee := .builtin .copy, args := #[d, s], argTypes := #[27, 27] }) (hgd : o.guard = none)
    (g p q sLen sCap : Nat) (hd : a.eval d = .slice (some ⟨g, 2, none⟩) 32 32) (hs : a.eval s = .slice (some ⟨p, q, none⟩) sLen sCap) (RC : Array Value) (t : List Int)
    (hg : Row w g 70 RC) (h0 : RC.size = 35) (h1 : RC.all (·.oneCell') = true) (ht : t.length = 32) (hl : 32 ≤ sLen) (hsp : Bytes w (some ⟨p, q, none⟩) t)
    (hk : ∀ RC' : Array Value, RC'.size = 35 → RC'.all (·.oneCell') = true → wpList Try.prog ops Q rest (a.put o.dst (.int .i64 32)) (w.setRow g RC')) : wpList Try.prog ops Q (o :: rest) a w := by
  obtain ⟨b, ob, e, hsrc⟩ := hsp (by omega)
  cases e
  refine wpList_copy_own hgd d s 27 27 ho 5 Try.underlying27 (by kernel_rfl) g 2 32 32 ⟨p, q, none⟩ sLen sCap hd hs RC 70 hg (t.map (Value.int .u8)) (by rw [List.length_map, ht]; exact (Nat.min_eq_right hl).symm) (fun j v hv => ?_) (by rw [List.length_map, ht, h0]; decide) (fun v hv => ?_) ?_
  · rw [Addr.add_mid]
    have hj : j < t.length := by
      have := (List.getElem?_eq_some_iff.1 hv).1; simpa using this
    rw [hsrc j hj, ← hv]; simp [gi, hj]
  · obtain ⟨x, _, rfl⟩ := List.mem_map.1 hv; rfl
  · have hm : ∀ v ∈ RC.toList, v.oneCell' = true := fun v hv => (Array.all_eq_true_iff_forall_mem.1 h1) v (by simpa using hv)
    have := hk (RC.toList.take 2 ++ (t.map (Value.int .u8) ++ RC.toList.drop (2 + (t.map (Value.int .u8)).length))).toArray (by simp [ht, h0]) (by
      refine Array.all_eq_true_iff_forall_mem.2 fun v hv => ?_
      have hv : v ∈ RC.toList.take 2 ++ (t.map (Value.int .u8) ++ RC.toList.drop (2 + (t.map (Value.int .u8)).length)) := by simpa using hv
      rcases List.mem_append.1 hv with h | h
      · exact hm v (List.mem_of_mem_take h)
      · rcases List.mem_append.1 h with h | h
        · obtain ⟨x, _, rfl⟩ := List.mem_map.1 h; rfl
        · exact hm v (List.mem_of_mem_drop h))
    simpa [goInt, ht] using this
def rErr (b : List Int) : Int := if b.length < 95 then 8 else if (b.length : Int) < 95 + beN ((b.drop 93).take 2) 2 then 8 else if 95 + beN ((b.drop 93).take 2) 2 < (b.length : Int) then 9 else 0
def ReadsR (E : Int) (w : World) (e : Ending) (w' : World) : Prop := ∃ RC : Array Value, e = .returned (.tuple #[.agg RC, .int .i64 E]) ∧ RC.size = 35 ∧ RC.all (·.oneCell') = true ∧ Below w.heap.size w w'
theorem info70 {cs : Array Value} (h : cs.size = 35) : (Try.prog.info? 70).map (·.size) = some cs.size := by rw [h]; kernel_rfl
theorem zrc_size : zrc.size = 35 := rc_size rfl
theorem zrc_one : zrc.all (·.oneCell') = true := rc_one _ _ _ _ rfl rfl
set_option maxRecDepth 20000 in
set_option maxHeartbeats 1000000 in
theorem proot_any (b : List Int) (p o kap : Nat) (w0 : World) (hm : b.length ≤ 1000000) (hc : b.length ≤ kap) (hby : Bytes w0 (some ⟨p, o, none⟩) b) (hy : By b)
    (hhd : 95 ≤ b.length → gi b 0 = 114 ∧ 1 ≤ beN ((b.drop 57).take 4) 4 ∧ beN ((b.drop 57).take 4) 4 ≤ 2147483647 ∧ beN ((b.drop 93).take 2) 2 ≤ 5000) :
    Calls Try.prog 29 #[.slice (some ⟨p, o, none⟩) b.length kap] w0 (ReadsR (rErr b) w0) := by
  have hrz := Row.new w0 70 zrc
  have hbz : Below w0.heap.size w0 (w0.alloc (.cells zrc 70)) := (Below.refl _ _).alloc (Nat.le_refl _) _
  by_cases hl : b.length < 95
  · have hE : rErr b = 8 := by unfold rErr; rw [if_pos hl]
    rw [hE]
    clear hE hhd hby
    generalize b.length = n at *
    go_enter Try.func29, Try.ntmps29
    go_wp2_with (refine store_row0 70 (.tmp 2) (.tmp 11) (by rfl) (by rfl) (by rfl) w0.heap.size zrc (by rfl) (by rfl) 70 _ hrz (info70 zrc_size) rfl zrc_one ?_)
    exact bodyPost_ret (results_row_tmp Try.results29 _ _ w0.heap.size 70 zrc _ rfl (hrz.setRow _) Try.underlying70 rfl (info70 zrc_size)) rfl ⟨zrc, rfl, zrc_size, zrc_one, below_setRow hbz (Nat.le_refl _) _⟩
  obtain ⟨h0, hv0, hv1, hL1⟩ := hhd (by omega)
  obtain ⟨p', o', e, hcl⟩ := hby (by omega)
  cases e
  have c0 : w0.cell? ⟨p, o, none⟩ = some (.int .u8 114) := by rw [← h0]; exact hcl 0 (by omega)
  have hp : p < w0.heap.size := block_lt_of_cell c0
  have s4 : ((b.drop 57).take 4).length = 4 := by simp; omega
  have s2 : ((b.drop 93).take 2).length = 2 := by simp; omega
  have hn4 := fun wx cp => number_any ((b.drop 57).take 4) (some ⟨p, o + 57, none⟩) cp wx
  have hn2 := fun wx cp => number_any ((b.drop 93).take 2) (some ⟨p, o + 93, none⟩) cp wx
  rw [s4] at hn4
  rw [s2] at hn2
  have y4 := hy.sub 57 4
  have y2 := hy.sub 93 2
  have B4 := hby.sub 57 4
  have B2 := hby.sub 93 2
  have hver := fun wx => version_any (beN ((b.drop 57).take 4) 4) wx hv0 hv1
  have hL0 := (beN_small y2 (k := 2) (by omega) (by omega)).1
  have hends := fun wx => ends_any (some ⟨p, o, none⟩) b.length kap (95 + beN ((b.drop 93).take 2) 2) wx hm (by omega) (by omega)
  have hEd : rErr b = (if (b.length : Int) < 95 + beN ((b.drop 93).take 2) 2 then 8 else if 95 + beN ((b.drop 93).take 2) 2 < (b.length : Int) then 9 else 0) := by unfold rErr; rw [if_neg hl]
  rw [← hEd] at hends
  generalize rErr b = E at *
  have B56 := hby.sub 1 56
  have l56 : ((b.drop 1).take 56).length = 56 := by simp; omega
  have BS := hby.drop 95
  have B32 := hby.sub 61 32
  have l32 : ((b.drop 61).take 32).length = 32 := by simp; omega
  have lS : (b.drop 95).length = b.length - 95 := by simp
  have hcl1 := fun wx cp (h : Bytes wx (some ⟨p, o + 1, none⟩) ((b.drop 1).take 56)) => clone_any ((b.drop 1).take 56) p (o + 1) 56 cp wx l56 (by omega) h
  have hEd' : Hid (E = (if (b.length : Int) < 95 + beN ((b.drop 93).take 2) 2 then 8 else if 95 + beN ((b.drop 93).take 2) 2 < (b.length : Int) then 9 else 0)) := ⟨hEd⟩
  clear hEd hhd hcl h0
  generalize beN ((b.drop 57).take 4) 4 = V at *
  generalize beN ((b.drop 93).take 2) 2 = LG at *
  generalize (b.drop 57).take 4 = b4 at *
  generalize (b.drop 93).take 2 = b2 at *
  generalize (b.drop 1).take 56 = PU at *
  generalize b.drop 95 = SI at *
  generalize (b.drop 61).take 32 = N32 at *
  generalize b.length = lx at *
  obtain ⟨g0, hg0⟩ : ∃ g0, w0.heap.size = g0 := ⟨_, rfl⟩
  have hg0' : w0.heap.size ≤ g0 := by omega
  go_enter Try.func29, Try.ntmps29
  go_upto_region 3 with fail
  rw [hg0] at hrz
  try simp only [hg0]
  change Code.wp _ _ _ _ (w0.alloc (.cells zrc 70))
  generalize w0.alloc (.cells zrc 70) = w1 at hrz hbz ⊢
  have hgp : p < g0 := by omega
  clear hg0
  have hB4 : ∀ k, Bytes (w1.drewN k) (some ⟨p, o + 57, none⟩) b4 := fun k => B4.below (below_drewN hbz k)
  have hB2 : ∀ k, Bytes (w1.drewN k) (some ⟨p, o + 93, none⟩) b2 := fun k => B2.below (below_drewN hbz k)
  refine wp_region_quiet_tail 6 (by kernel_rfl) (by kernel_rfl) ?_
  simp only [List.take_succ_cons, List.take_zero, List.drop_succ_cons, List.drop_zero]
  iterate 2 (go_big_quiet_step (fail))
  go_big_quiet_step ((go_at_call 35; exact (hn4 _ _ (hB4 _) y4 (by omega)).mono (fun e w' ⟨he, hw⟩ => ⟨he, _, hw⟩)))
  iterate 2 (go_big_quiet_step (fail))
  go_big_quiet_step ((go_at_call 35; exact (hn2 _ _ (hB2 _) y2 (by omega)).mono (fun e w' ⟨he, hw⟩ => ⟨he, _, hw⟩)))
  refine wpQuiet_nil ?_
  rintro _ ⟨nq, rfl⟩
  have r0 := hrz.drewN nq
  have rb := below_drewN hbz nq
  clear hrz hbz hB4 hB2 hn4 hn2 B4 B2
  generalize w1.drewN nq = w2 at r0 rb ⊢
  have c1 : w2.cell? ⟨p, o, none⟩ = some (.int .u8 114) := by rw [rb.cell (p := ⟨p, o, none⟩) hp]; exact c0
  by_cases hE0 : E = 0
  case neg =>
    have hEb : (E != 0) = true := by simpa using hE0
    clear hEd'
    go_wp2_with (first | (go_at_call 45; (with_reducible refine Calls.mono (hver _) ?_); rintro e w3 ⟨rfl, hw⟩; obtain rfl := hw.symm; clear hw) | (go_at_call 39; (with_reducible refine Calls.mono (hends _) ?_); rintro e w3 ⟨rfl, hw⟩; obtain rfl := hw.symm; clear hw) | (refine store_row0 70 (.tmp 2) (.tmp 38) (by rfl) (by rfl) (by rfl) g0 zrc (by rfl) (by rfl) 70 _ r0 (info70 zrc_size) rfl zrc_one ?_))
    exact bodyPost_ret (results_row_tmp Try.results29 _ _ g0 70 zrc _ rfl (r0.setRow _) Try.underlying70 rfl (info70 zrc_size)) rfl ⟨zrc, rfl, zrc_size, zrc_one, below_setRow rb hg0' _⟩
  subst hE0
  have hlen : (lx : Int) = 95 + LG := by
    have := hEd'.out
    by_cases h1 : (lx : Int) < 95 + LG
    · rw [if_pos h1] at this; exact absurd this (by decide)
    · rw [if_neg h1] at this
      by_cases h2 : 95 + LG < (lx : Int)
      · rw [if_pos h2] at this; exact absurd this (by decide)
      · omega
  clear hEd'
  go_upto_region 9 with (first | (go_at_call 45; (with_reducible refine Calls.mono (hver _) ?_); rintro e w3 ⟨rfl, hw⟩; obtain rfl := hw.symm; clear hw) | (go_at_call 39; (with_reducible refine Calls.mono (hends _) ?_); rintro e w3 ⟨rfl, hw⟩; obtain rfl := hw.symm; clear hw))
  have h95 : 95 ≤ lx := by omega
  clear hlen hL1 hL0 hl
  obtain ⟨B, hB⟩ : ∃ B, w2.heap.size = B := ⟨_, rfl⟩
  have hsB : ∀ {w : World}, Below B w2 w → B ≤ w.heap.size := fun h => by have := h.size; omega
  have hgB0 : g0 < B := by rw [← hB]; exact r0.lt
  have hwB : w0.heap.size ≤ B := by omega
  have hcl1 := fun w (h : Below B w2 w) => hcl1 w (kap - 1) (B56.below (rb.trans (h.mono hwB)))
  clear hends hver c1
  by_cases hcap : kap = 95
  · subst hcap
    obtain rfl : lx = 95 := by omega
    have hcl2 := fun w (_ : Below B w2 w) => clone_any SI p o 0 0 w (by omega) (by omega) (by rw [List.eq_nil_of_length_eq_zero (l := SI) (by omega)]; exact Bytes.nil _ _)
    refine region_invFA  (by kernel_rfl) (by kernel_rfl) (fun a0 listed a w => ∃ s7 s40 s41 s42 s43 s44 s45 s46 s47, a = (Act.put (Act.put (Act.put (Act.put (Act.put (Act.put (Act.put (Act.put (Act.put a0 (some 7) s7) (some 40) s40) (some 41) s41) (some 42) s42) (some 43) s43) (some 44) s44) (some 45) s45) (some 46) s46) (some 47) s47) ∧ Below B w2 w ∧ (listed.getD 0 false = true → s40 = .slice (some ⟨p, o, none⟩) 95 95) ∧ (listed.getD 1 false = true → s41 = .slice (some ⟨p, o + 1, none⟩) 56 (95 - 1)) ∧ (listed.getD 2 false = true → listed.getD 7 false = false → OwnS w B s42 56 PU) ∧ (listed.getD 3 false = true → s43 = .int .i64 V) ∧ (listed.getD 4 false = true → s44 = .slice (some ⟨p, o, none⟩) 95 95) ∧ (listed.getD 5 false = true → s45 = .slice (some ⟨p, o, none⟩) 0 0) ∧ (listed.getD 6 false = true → listed.getD 7 false = false → OwnS w B s46 0 SI) ∧ (listed.getD 7 false = true → AggS s47) ∧ (listed.getD 8 false = true → listed.getD 9 false = false → VarX w B s7) ∧ (listed.getD 9 false = true → VarY w B s7)) ?_ ?_ ?_
    all_goals simp only [Act.put, List.setIfInBounds_toArray, List.set_cons_succ, List.set_cons_zero]
    · exact ⟨_, _, _, _, _, _, _, _, _, rfl, (Below.refl B _).drew, (fun h => absurd h (by rw [getD_replicate_false]; decide)), (fun h => absurd h (by rw [getD_replicate_false]; decide)), (fun h => absurd h (by rw [getD_replicate_false]; decide)), (fun h => absurd h (by rw [getD_replicate_false]; decide)), (fun h => absurd h (by rw [getD_replicate_false]; decide)), (fun h => absurd h (by rw [getD_replicate_false]; decide)), (fun h => absurd h (by rw [getD_replicate_false]; decide)), (fun h => absurd h (by rw [getD_replicate_false]; decide)), (fun h => absurd h (by rw [getD_replicate_false]; decide)), (fun h => absurd h (by rw [getD_replicate_false]; decide))⟩
    · intro listed a w i o hls hJ hin ho hi hall hcl
      obtain ⟨s7, s40, s41, s42, s43, s44, s45, s46, s47, rfl, hbW, c0, c1, c2, c3, c4, c5, c6, c7, c8, c9⟩ := hJ
      replace hin : i < 10 := hin
      rcases (by omega : i = 0 ∨ i = 1 ∨ i = 2 ∨ i = 3 ∨ i = 4 ∨ i = 5 ∨ i = 6 ∨ i = 7 ∨ i = 8 ∨ i = 9) with rfl | rfl | rfl | rfl | rfl | rfl | rfl | rfl | rfl | rfl
      · obtain rfl := Option.some.inj ho
        have hsz : 0 < listed.size := by rw [hls]; decide
        have hbw := hbW
        refine inv_val (w' := w) (.slice (some ⟨p, o, none⟩) 95 95) rfl rfl rfl ?_
        exact ⟨s7, (.slice (some ⟨p, o, none⟩) 95 95), s41, s42, s43, s44, s45, s46, s47, rfl, hbw, (fun _ => rfl), (fun h => c1 (bit_ne h (by decide))), (fun h h2 => c2 (bit_ne h (by decide)) (bit_ne h2 (by decide))), (fun h => c3 (bit_ne h (by decide))), (fun h => c4 (bit_ne h (by decide))), (fun h => c5 (bit_ne h (by decide))), (fun h h2 => c6 (bit_ne h (by decide)) (bit_ne h2 (by decide))), (fun h => c7 (bit_ne h (by decide))), (fun h h2 => c8 (bit_ne h (by decide)) (bit_ne h2 (by decide))), (fun h => absurd (hcl 1 _ rfl (hcl 2 _ rfl (hcl 7 _ rfl (hcl 9 _ rfl (bit_ne h (by decide)) ⟨7, .data⟩ (by simp) rfl) ⟨2, .data⟩ (by simp) rfl) ⟨1, .data⟩ (by simp) rfl) ⟨0, .data⟩ (by simp) rfl) (by rw [hi]; decide))⟩
      · obtain rfl := Option.some.inj ho
        have hsz : 1 < listed.size := by rw [hls]; decide
        have hdep0 : listed.getD 0 false = true := hall ⟨0, .data⟩ (by simp) (by rfl)
        obtain rfl := c0 hdep0
        have hbw := hbW
        refine inv_val (w' := w) (.slice (some ⟨p, o + 1, none⟩) 56 (95 - 1)) rfl rfl (by go_simp) ?_
        exact ⟨s7, (.slice (some ⟨p, o, none⟩) 95 95), (.slice (some ⟨p, o + 1, none⟩) 56 (95 - 1)), s42, s43, s44, s45, s46, s47, rfl, hbw, (fun h => c0 (bit_ne h (by decide))), (fun _ => rfl), (fun h h2 => c2 (bit_ne h (by decide)) (bit_ne h2 (by decide))), (fun h => c3 (bit_ne h (by decide))), (fun h => c4 (bit_ne h (by decide))), (fun h => c5 (bit_ne h (by decide))), (fun h h2 => c6 (bit_ne h (by decide)) (bit_ne h2 (by decide))), (fun h => c7 (bit_ne h (by decide))), (fun h h2 => c8 (bit_ne h (by decide)) (bit_ne h2 (by decide))), (fun h => absurd (hcl 2 _ rfl (hcl 7 _ rfl (hcl 9 _ rfl (bit_ne h (by decide)) ⟨7, .data⟩ (by simp) rfl) ⟨2, .data⟩ (by simp) rfl) ⟨1, .data⟩ (by simp) rfl) (by rw [hi]; decide))⟩
      · obtain rfl := Option.some.inj ho
        have hsz : 2 < listed.size := by rw [hls]; decide
        have hdep1 : listed.getD 1 false = true := hall ⟨1, .data⟩ (by simp) (by rfl)
        obtain rfl := c1 hdep1
        refine inv_call 46 #[.slice (some ⟨p, o + 1, none⟩) 56 (95 - 1)] _ rfl rfl (by kernel_rfl) (hcl1 w hbW) ?_
        rintro e w' ⟨sp, cap, rfl, ow, hb⟩
        have hbw : Below B w2 w' := hbW.trans (hb.mono (hsB hbW))
        refine ⟨_, rfl, ?_⟩
        exact ⟨s7, s40, (.slice (some ⟨p, o + 1, none⟩) 56 (95 - 1)), (.slice sp 56 cap), s43, s44, s45, s46, s47, rfl, hbw, (fun h => c0 (bit_ne h (by decide))), (fun h => c1 (bit_ne h (by decide))), (fun _ _ => ⟨sp, cap, rfl, ow.mono (hsB hbW)⟩), (fun h => c3 (bit_ne h (by decide))), (fun h => c4 (bit_ne h (by decide))), (fun h => c5 (bit_ne h (by decide))), (fun h h2 => (c6 (bit_ne h (by decide)) (bit_ne h2 (by decide))).below hb), (fun h => c7 (bit_ne h (by decide))), (fun h h2 => (c8 (bit_ne h (by decide)) (bit_ne h2 (by decide))).below hb), (fun h => absurd (hcl 7 _ rfl (hcl 9 _ rfl (bit_ne h (by decide)) ⟨7, .data⟩ (by simp) rfl) ⟨2, .data⟩ (by simp) rfl) (by rw [hi]; decide))⟩
      · obtain rfl := Option.some.inj ho
        have hsz : 3 < listed.size := by rw [hls]; decide
        have hbw := hbW
        refine inv_val (w' := w) (.int .i64 V) rfl rfl rfl ?_
        exact ⟨s7, s40, s41, s42, (.int .i64 V), s44, s45, s46, s47, rfl, hbw, (fun h => c0 (bit_ne h (by decide))), (fun h => c1 (bit_ne h (by decide))), (fun h h2 => c2 (bit_ne h (by decide)) (bit_ne h2 (by decide))), (fun _ => rfl), (fun h => c4 (bit_ne h (by decide))), (fun h => c5 (bit_ne h (by decide))), (fun h h2 => c6 (bit_ne h (by decide)) (bit_ne h2 (by decide))), (fun h => c7 (bit_ne h (by decide))), (fun h h2 => c8 (bit_ne h (by decide)) (bit_ne h2 (by decide))), (fun h => absurd (hcl 7 _ rfl (hcl 9 _ rfl (bit_ne h (by decide)) ⟨7, .data⟩ (by simp) rfl) ⟨3, .data⟩ (by simp) rfl) (by rw [hi]; decide))⟩
      · obtain rfl := Option.some.inj ho
        have hsz : 4 < listed.size := by rw [hls]; decide
        have hbw := hbW
        refine inv_val (w' := w) (.slice (some ⟨p, o, none⟩) 95 95) rfl rfl rfl ?_
        exact ⟨s7, s40, s41, s42, s43, (.slice (some ⟨p, o, none⟩) 95 95), s45, s46, s47, rfl, hbw, (fun h => c0 (bit_ne h (by decide))), (fun h => c1 (bit_ne h (by decide))), (fun h h2 => c2 (bit_ne h (by decide)) (bit_ne h2 (by decide))), (fun h => c3 (bit_ne h (by decide))), (fun _ => rfl), (fun h => c5 (bit_ne h (by decide))), (fun h h2 => c6 (bit_ne h (by decide)) (bit_ne h2 (by decide))), (fun h => c7 (bit_ne h (by decide))), (fun h h2 => c8 (bit_ne h (by decide)) (bit_ne h2 (by decide))), (fun h => absurd (hcl 5 _ rfl (hcl 6 _ rfl (hcl 7 _ rfl (hcl 9 _ rfl (bit_ne h (by decide)) ⟨7, .data⟩ (by simp) rfl) ⟨6, .data⟩ (by simp) rfl) ⟨5, .data⟩ (by simp) rfl) ⟨4, .data⟩ (by simp) rfl) (by rw [hi]; decide))⟩
      · obtain rfl := Option.some.inj ho
        have hsz : 5 < listed.size := by rw [hls]; decide
        have hdep4 : listed.getD 4 false = true := hall ⟨4, .data⟩ (by simp) (by rfl)
        obtain rfl := c4 hdep4
        have hbw := hbW
        refine inv_val (w' := w) (.slice (some ⟨p, o, none⟩) 0 0) rfl rfl (by go_simp) ?_
        exact ⟨s7, s40, s41, s42, s43, (.slice (some ⟨p, o, none⟩) 95 95), (.slice (some ⟨p, o, none⟩) 0 0), s46, s47, rfl, hbw, (fun h => c0 (bit_ne h (by decide))), (fun h => c1 (bit_ne h (by decide))), (fun h h2 => c2 (bit_ne h (by decide)) (bit_ne h2 (by decide))), (fun h => c3 (bit_ne h (by decide))), (fun h => c4 (bit_ne h (by decide))), (fun _ => rfl), (fun h h2 => c6 (bit_ne h (by decide)) (bit_ne h2 (by decide))), (fun h => c7 (bit_ne h (by decide))), (fun h h2 => c8 (bit_ne h (by decide)) (bit_ne h2 (by decide))), (fun h => absurd (hcl 6 _ rfl (hcl 7 _ rfl (hcl 9 _ rfl (bit_ne h (by decide)) ⟨7, .data⟩ (by simp) rfl) ⟨6, .data⟩ (by simp) rfl) ⟨5, .data⟩ (by simp) rfl) (by rw [hi]; decide))⟩
      · obtain rfl := Option.some.inj ho
        have hsz : 6 < listed.size := by rw [hls]; decide
        have hdep5 : listed.getD 5 false = true := hall ⟨5, .data⟩ (by simp) (by rfl)
        obtain rfl := c5 hdep5
        refine inv_call 46 #[.slice (some ⟨p, o, none⟩) 0 0] _ rfl rfl (by kernel_rfl) (hcl2 w hbW) ?_
        rintro e w' ⟨sp, cap, rfl, ow, hb⟩
        have hbw : Below B w2 w' := hbW.trans (hb.mono (hsB hbW))
        refine ⟨_, rfl, ?_⟩
        exact ⟨s7, s40, s41, s42, s43, s44, (.slice (some ⟨p, o, none⟩) 0 0), (.slice sp 0 cap), s47, rfl, hbw, (fun h => c0 (bit_ne h (by decide))), (fun h => c1 (bit_ne h (by decide))), (fun h h2 => (c2 (bit_ne h (by decide)) (bit_ne h2 (by decide))).below hb), (fun h => c3 (bit_ne h (by decide))), (fun h => c4 (bit_ne h (by decide))), (fun h => c5 (bit_ne h (by decide))), (fun _ _ => ⟨sp, cap, rfl, ow.mono (hsB hbW)⟩), (fun h => c7 (bit_ne h (by decide))), (fun h h2 => (c8 (bit_ne h (by decide)) (bit_ne h2 (by decide))).below hb), (fun h => absurd (hcl 7 _ rfl (hcl 9 _ rfl (bit_ne h (by decide)) ⟨7, .data⟩ (by simp) rfl) ⟨6, .data⟩ (by simp) rfl) (by rw [hi]; decide))⟩
      · obtain rfl := Option.some.inj ho
        have hsz : 7 < listed.size := by rw [hls]; decide
        have hdep2 : listed.getD 2 false = true := hall ⟨2, .data⟩ (by simp) (by rfl)
        obtain ⟨sp2, cap2, rfl, o2⟩ := c2 hdep2 hi
        have hdep3 : listed.getD 3 false = true := hall ⟨3, .data⟩ (by simp) (by rfl)
        obtain rfl := c3 hdep3
        have hdep6 : listed.getD 6 false = true := hall ⟨6, .data⟩ (by simp) (by rfl)
        obtain ⟨sp6, cap6, rfl, o6⟩ := c6 hdep6 hi
        have hbw := hbW
        refine inv_val (w' := w) (.agg (rc (.slice sp2 56 cap2) V (zer 32) (.slice sp6 0 cap6))) rfl rfl (by kernel_rfl) ?_
        exact ⟨s7, s40, s41, (.slice sp2 56 cap2), (.int .i64 V), s44, s45, (.slice sp6 0 cap6), (.agg (rc (.slice sp2 56 cap2) V (zer 32) (.slice sp6 0 cap6))), rfl, hbw, (fun h => c0 (bit_ne h (by decide))), (fun h => c1 (bit_ne h (by decide))), (fun _ h2 => absurd (bit_on hsz) (by rw [h2]; decide)), (fun h => c3 (bit_ne h (by decide))), (fun h => c4 (bit_ne h (by decide))), (fun h => c5 (bit_ne h (by decide))), (fun _ h2 => absurd (bit_on hsz) (by rw [h2]; decide)), (fun _ => ⟨_, rfl, rc_size rfl, rc_one _ _ _ _ rfl rfl⟩), (fun h h2 => c8 (bit_ne h (by decide)) (bit_ne h2 (by decide))), (fun h => absurd (hcl 9 _ rfl (bit_ne h (by decide)) ⟨7, .data⟩ (by simp) rfl) (by rw [hi]; decide))⟩
      · obtain rfl := Option.some.inj ho
        have hsz : 8 < listed.size := by rw [hls]; decide
        have hbw : Below B w2 (w.alloc (.cells zrc 70)) := hbW.alloc (hsB hbW) _
        refine inv_val (.pointer (some ⟨w.heap.size, 0, none⟩)) (w' := w.alloc (.cells zrc 70)) rfl rfl (by kernel_rfl) ?_
        exact ⟨(.pointer (some ⟨w.heap.size, 0, none⟩)), s40, s41, s42, s43, s44, s45, s46, s47, rfl, hbw, (fun h => c0 (bit_ne h (by decide))), (fun h => c1 (bit_ne h (by decide))), (fun h h2 => (c2 (bit_ne h (by decide)) (bit_ne h2 (by decide))).alloc _), (fun h => c3 (bit_ne h (by decide))), (fun h => c4 (bit_ne h (by decide))), (fun h => c5 (bit_ne h (by decide))), (fun h h2 => (c6 (bit_ne h (by decide)) (bit_ne h2 (by decide))).alloc _), (fun h => c7 (bit_ne h (by decide))), (fun _ _ => VarX.new w B (hsB hbW)), (fun h => absurd (hcl 9 _ rfl (bit_ne h (by decide)) ⟨8, .data⟩ (by simp) rfl) (by rw [hi]; decide))⟩
      · obtain rfl := Option.some.inj ho
        have hsz : 9 < listed.size := by rw [hls]; decide
        have hdep8 : listed.getD 8 false = true := hall ⟨8, .data⟩ (by simp) (by rfl)
        have hdep7 : listed.getD 7 false = true := hall ⟨7, .data⟩ (by simp) (by rfl)
        obtain ⟨rc7, rfl, ha7, hx7⟩ := c7 hdep7
        obtain ⟨bV, rfl, rV, hbV⟩ := c8 hdep8 hi
        refine inv_storex 70 (.tmp 7) (.tmp 47) rfl rfl rfl rfl bV rc7 rfl rfl 70 _ rV (by rw [ha7]; kernel_rfl) (by rw [ha7]; rfl) hx7 ?_
        have hbw : Below B w2 (w.setRow bV rc7) := below_setRow hbW hbV _
        exact ⟨(.pointer (some ⟨bV, 0, none⟩)), s40, s41, s42, s43, s44, s45, s46, (.agg rc7), rfl, hbw, (fun h => c0 (bit_ne h (by decide))), (fun h => c1 (bit_ne h (by decide))), (fun _ h2 => absurd hdep7 (by rw [bit_ne h2 (by decide)]; decide)), (fun h => c3 (bit_ne h (by decide))), (fun h => c4 (bit_ne h (by decide))), (fun h => c5 (bit_ne h (by decide))), (fun _ h2 => absurd hdep7 (by rw [bit_ne h2 (by decide)]; decide)), (fun h => c7 (bit_ne h (by decide))), (fun _ h2 => absurd (bit_on hsz) (by rw [h2]; decide)), (fun _ => ⟨bV, _, rfl, rV.setRow _, ha7, hx7, hbV⟩)⟩
    · intro listed a w hall hJ
      obtain ⟨s7, s40, s41, s42, s43, s44, s45, s46, s47, rfl, hbW, c0, c1, c2, c3, c4, c5, c6, c7, c8, c9⟩ := hJ
      obtain rfl := c0 (hall 0 (by decide))
      obtain rfl := c1 (hall 1 (by decide))
      obtain rfl := c3 (hall 3 (by decide))
      obtain rfl := c4 (hall 4 (by decide))
      obtain rfl := c5 (hall 5 (by decide))
      obtain ⟨rc7, rfl, ha7, hx7⟩ := c7 (hall 7 (by decide))
      obtain ⟨b9, RC, rfl, r9, hR9, hO9, hb9⟩ := c9 (hall 9 (by decide))
      have s9 := r9
      have sR := hR9
      have sO := hO9
      have s0 := r0.below hbW hgB0
      have sb : Below w0.heap.size w0 w := rb.trans (hbW.mono (by omega))
      have sg : g0 < b9 := by omega
      clear c0 c1 c2 c3 c4 c5 c6 c7 c8 c9 hall hbW r9 hR9 hO9 hx7 ha7 r0 rb
      generalize w = w5 at *
      go_upto_region 10 with fail
      refine wp_region_quiet_tail 4 (by kernel_rfl) (by kernel_rfl) ?_
      simp only [List.take_succ_cons, List.take_zero, List.drop_succ_cons, List.drop_zero]
      repeat (go_big_quiet_step (fail))
      refine wpQuiet_nil ?_
      rintro _ ⟨nq, rfl⟩
      replace s0 := s0.drewN nq
      replace s9 := s9.drewN nq
      replace sb := below_drewN sb nq
      refine copy_rc (w := w5.drewN nq) (.tmp 49) (.tmp 51) (by rfl) (by rfl) b9 p (o + 61) (95 - 61) (95 - 61) (by rfl) (by rfl) RC N32 s9 sR sO l32 (by omega) (B32.below sb) ?_
      intro RD hD hDO
      simp only [Act.put, List.setIfInBounds_toArray, List.set_cons_succ, List.set_cons_zero]
      have t0 := s0.setRowOther (g := b9) (by omega) RD
      have t9 := s9.setRow RD
      have tb := below_setRow (g := b9) sb (by omega) RD
      generalize (w5.drewN nq).setRow b9 RD = w6 at t0 t9 tb ⊢
      go_wp2_with (first | (refine wpList_load_row (by rfl) 70 (.tmp 7) (by rfl) b9 (by rfl) 70 RD (0, 0) _ t9 Try.underlying70 rfl (info70 hD) ?_) | (refine store_row0 70 (.tmp 2) (.tmp 53) (by rfl) (by rfl) (by rfl) g0 RD (by rfl) (by rfl) 70 _ t0 (info70 hD) (by rw [hD]; exact zrc_size) hDO ?_))
      exact bodyPost_ret (results_row_tmp Try.results29 _ _ g0 70 RD _ rfl (t0.setRow _) Try.underlying70 rfl (info70 hD)) rfl ⟨RD, rfl, hD, hDO, below_setRow tb hg0' _⟩
  · have hcl2 := fun w (h : Below B w2 w) => clone_any SI p (o + 95) (lx - 95) (kap - 95) w lS (by omega) (BS.below (rb.trans (h.mono hwB)))
    have z1 : ¬ kap = 1 := by omega
    have z2 : (57 : Int) ≤ kap := by omega
    have z3 : (95 : Int) ≤ lx := by omega
    have z4 : (lx : Int) ≤ kap := by omega
    refine region_invFA  (by kernel_rfl) (by kernel_rfl) (fun a0 listed a w => ∃ s7 s40 s41 s42 s43 s44 s45 s46 s47, a = (Act.put (Act.put (Act.put (Act.put (Act.put (Act.put (Act.put (Act.put (Act.put a0 (some 7) s7) (some 40) s40) (some 41) s41) (some 42) s42) (some 43) s43) (some 44) s44) (some 45) s45) (some 46) s46) (some 47) s47) ∧ Below B w2 w ∧ (listed.getD 0 false = true → s40 = .slice (some ⟨p, o, none⟩) lx kap) ∧ (listed.getD 1 false = true → s41 = .slice (some ⟨p, o + 1, none⟩) 56 (kap - 1)) ∧ (listed.getD 2 false = true → listed.getD 7 false = false → OwnS w B s42 56 PU) ∧ (listed.getD 3 false = true → s43 = .int .i64 V) ∧ (listed.getD 4 false = true → s44 = .slice (some ⟨p, o, none⟩) lx kap) ∧ (listed.getD 5 false = true → s45 = .slice (some ⟨p, o + 95, none⟩) (lx - 95) (kap - 95)) ∧ (listed.getD 6 false = true → listed.getD 7 false = false → OwnS w B s46 (lx - 95) SI) ∧ (listed.getD 7 false = true → AggS s47) ∧ (listed.getD 8 false = true → listed.getD 9 false = false → VarX w B s7) ∧ (listed.getD 9 false = true → VarY w B s7)) ?_ ?_ ?_
    all_goals simp only [Act.put, List.setIfInBounds_toArray, List.set_cons_succ, List.set_cons_zero]
    · exact ⟨_, _, _, _, _, _, _, _, _, rfl, (Below.refl B _).drew, (fun h => absurd h (by rw [getD_replicate_false]; decide)), (fun h => absurd h (by rw [getD_replicate_false]; decide)), (fun h => absurd h (by rw [getD_replicate_false]; decide)), (fun h => absurd h (by rw [getD_replicate_false]; decide)), (fun h => absurd h (by rw [getD_replicate_false]; decide)), (fun h => absurd h (by rw [getD_replicate_false]; decide)), (fun h => absurd h (by rw [getD_replicate_false]; decide)), (fun h => absurd h (by rw [getD_replicate_false]; decide)), (fun h => absurd h (by rw [getD_replicate_false]; decide)), (fun h => absurd h (by rw [getD_replicate_false]; decide))⟩
    · intro listed a w i o hls hJ hin ho hi hall hcl
      obtain ⟨s7, s40, s41, s42, s43, s44, s45, s46, s47, rfl, hbW, c0, c1, c2, c3, c4, c5, c6, c7, c8, c9⟩ := hJ
      replace hin : i < 10 := hin
      rcases (by omega : i = 0 ∨ i = 1 ∨ i = 2 ∨ i = 3 ∨ i = 4 ∨ i = 5 ∨ i = 6 ∨ i = 7 ∨ i = 8 ∨ i = 9) with rfl | rfl | rfl | rfl | rfl | rfl | rfl | rfl | rfl | rfl
      · obtain rfl := Option.some.inj ho
        have hsz : 0 < listed.size := by rw [hls]; decide
        have hbw := hbW
        refine inv_val (w' := w) (.slice (some ⟨p, o, none⟩) lx kap) rfl rfl rfl ?_
        exact ⟨s7, (.slice (some ⟨p, o, none⟩) lx kap), s41, s42, s43, s44, s45, s46, s47, rfl, hbw, (fun _ => rfl), (fun h => c1 (bit_ne h (by decide))), (fun h h2 => c2 (bit_ne h (by decide)) (bit_ne h2 (by decide))), (fun h => c3 (bit_ne h (by decide))), (fun h => c4 (bit_ne h (by decide))), (fun h => c5 (bit_ne h (by decide))), (fun h h2 => c6 (bit_ne h (by decide)) (bit_ne h2 (by decide))), (fun h => c7 (bit_ne h (by decide))), (fun h h2 => c8 (bit_ne h (by decide)) (bit_ne h2 (by decide))), (fun h => absurd (hcl 1 _ rfl (hcl 2 _ rfl (hcl 7 _ rfl (hcl 9 _ rfl (bit_ne h (by decide)) ⟨7, .data⟩ (by simp) rfl) ⟨2, .data⟩ (by simp) rfl) ⟨1, .data⟩ (by simp) rfl) ⟨0, .data⟩ (by simp) rfl) (by rw [hi]; decide))⟩
      · obtain rfl := Option.some.inj ho
        have hsz : 1 < listed.size := by rw [hls]; decide
        have hdep0 : listed.getD 0 false = true := hall ⟨0, .data⟩ (by simp) (by rfl)
        obtain rfl := c0 hdep0
        have hbw := hbW
        refine inv_val (w' := w) (.slice (some ⟨p, o + 1, none⟩) 56 (kap - 1)) rfl rfl (by go_simp) ?_
        exact ⟨s7, (.slice (some ⟨p, o, none⟩) lx kap), (.slice (some ⟨p, o + 1, none⟩) 56 (kap - 1)), s42, s43, s44, s45, s46, s47, rfl, hbw, (fun h => c0 (bit_ne h (by decide))), (fun _ => rfl), (fun h h2 => c2 (bit_ne h (by decide)) (bit_ne h2 (by decide))), (fun h => c3 (bit_ne h (by decide))), (fun h => c4 (bit_ne h (by decide))), (fun h => c5 (bit_ne h (by decide))), (fun h h2 => c6 (bit_ne h (by decide)) (bit_ne h2 (by decide))), (fun h => c7 (bit_ne h (by decide))), (fun h h2 => c8 (bit_ne h (by decide)) (bit_ne h2 (by decide))), (fun h => absurd (hcl 2 _ rfl (hcl 7 _ rfl (hcl 9 _ rfl (bit_ne h (by decide)) ⟨7, .data⟩ (by simp) rfl) ⟨2, .data⟩ (by simp) rfl) ⟨1, .data⟩ (by simp) rfl) (by rw [hi]; decide))⟩
      · obtain rfl := Option.some.inj ho
        have hsz : 2 < listed.size := by rw [hls]; decide
        have hdep1 : listed.getD 1 false = true := hall ⟨1, .data⟩ (by simp) (by rfl)
        obtain rfl := c1 hdep1
        refine inv_call 46 #[.slice (some ⟨p, o + 1, none⟩) 56 (kap - 1)] _ rfl rfl (by kernel_rfl) (hcl1 w hbW) ?_
        rintro e w' ⟨sp, cap, rfl, ow, hb⟩
        have hbw : Below B w2 w' := hbW.trans (hb.mono (hsB hbW))
        refine ⟨_, rfl, ?_⟩
        exact ⟨s7, s40, (.slice (some ⟨p, o + 1, none⟩) 56 (kap - 1)), (.slice sp 56 cap), s43, s44, s45, s46, s47, rfl, hbw, (fun h => c0 (bit_ne h (by decide))), (fun h => c1 (bit_ne h (by decide))), (fun _ _ => ⟨sp, cap, rfl, ow.mono (hsB hbW)⟩), (fun h => c3 (bit_ne h (by decide))), (fun h => c4 (bit_ne h (by decide))), (fun h => c5 (bit_ne h (by decide))), (fun h h2 => (c6 (bit_ne h (by decide)) (bit_ne h2 (by decide))).below hb), (fun h => c7 (bit_ne h (by decide))), (fun h h2 => (c8 (bit_ne h (by decide)) (bit_ne h2 (by decide))).below hb), (fun h => absurd (hcl 7 _ rfl (hcl 9 _ rfl (bit_ne h (by decide)) ⟨7, .data⟩ (by simp) rfl) ⟨2, .data⟩ (by simp) rfl) (by rw [hi]; decide))⟩
      · obtain rfl := Option.some.inj ho
        have hsz : 3 < listed.size := by rw [hls]; decide
        have hbw := hbW
        refine inv_val (w' := w) (.int .i64 V) rfl rfl rfl ?_
        exact ⟨s7, s40, s41, s42, (.int .i64 V), s44, s45, s46, s47, rfl, hbw, (fun h => c0 (bit_ne h (by decide))), (fun h => c1 (bit_ne h (by decide))), (fun h h2 => c2 (bit_ne h (by decide)) (bit_ne h2 (by decide))), (fun _ => rfl), (fun h => c4 (bit_ne h (by decide))), (fun h => c5 (bit_ne h (by decide))), (fun h h2 => c6 (bit_ne h (by decide)) (bit_ne h2 (by decide))), (fun h => c7 (bit_ne h (by decide))), (fun h h2 => c8 (bit_ne h (by decide)) (bit_ne h2 (by decide))), (fun h => absurd (hcl 7 _ rfl (hcl 9 _ rfl (bit_ne h (by decide)) ⟨7, .data⟩ (by simp) rfl) ⟨3, .data⟩ (by simp) rfl) (by rw [hi]; decide))⟩
      · obtain rfl := Option.some.inj ho
        have hsz : 4 < listed.size := by rw [hls]; decide
        have hbw := hbW
        refine inv_val (w' := w) (.slice (some ⟨p, o, none⟩) lx kap) rfl rfl rfl ?_
        exact ⟨s7, s40, s41, s42, s43, (.slice (some ⟨p, o, none⟩) lx kap), s45, s46, s47, rfl, hbw, (fun h => c0 (bit_ne h (by decide))), (fun h => c1 (bit_ne h (by decide))), (fun h h2 => c2 (bit_ne h (by decide)) (bit_ne h2 (by decide))), (fun h => c3 (bit_ne h (by decide))), (fun _ => rfl), (fun h => c5 (bit_ne h (by decide))), (fun h h2 => c6 (bit_ne h (by decide)) (bit_ne h2 (by decide))), (fun h => c7 (bit_ne h (by decide))), (fun h h2 => c8 (bit_ne h (by decide)) (bit_ne h2 (by decide))), (fun h => absurd (hcl 5 _ rfl (hcl 6 _ rfl (hcl 7 _ rfl (hcl 9 _ rfl (bit_ne h (by decide)) ⟨7, .data⟩ (by simp) rfl) ⟨6, .data⟩ (by simp) rfl) ⟨5, .data⟩ (by simp) rfl) ⟨4, .data⟩ (by simp) rfl) (by rw [hi]; decide))⟩
      · obtain rfl := Option.some.inj ho
        have hsz : 5 < listed.size := by rw [hls]; decide
        have hdep4 : listed.getD 4 false = true := hall ⟨4, .data⟩ (by simp) (by rfl)
        obtain rfl := c4 hdep4
        have hbw := hbW
        refine inv_val (w' := w) (.slice (some ⟨p, o + 95, none⟩) (lx - 95) (kap - 95)) rfl rfl (by go_simp) ?_
        exact ⟨s7, s40, s41, s42, s43, (.slice (some ⟨p, o, none⟩) lx kap), (.slice (some ⟨p, o + 95, none⟩) (lx - 95) (kap - 95)), s46, s47, rfl, hbw, (fun h => c0 (bit_ne h (by decide))), (fun h => c1 (bit_ne h (by decide))), (fun h h2 => c2 (bit_ne h (by decide)) (bit_ne h2 (by decide))), (fun h => c3 (bit_ne h (by decide))), (fun h => c4 (bit_ne h (by decide))), (fun _ => rfl), (fun h h2 => c6 (bit_ne h (by decide)) (bit_ne h2 (by decide))), (fun h => c7 (bit_ne h (by decide))), (fun h h2 => c8 (bit_ne h (by decide)) (bit_ne h2 (by decide))), (fun h => absurd (hcl 6 _ rfl (hcl 7 _ rfl (hcl 9 _ rfl (bit_ne h (by decide)) ⟨7, .data⟩ (by simp) rfl) ⟨6, .data⟩ (by simp) rfl) ⟨5, .data⟩ (by simp) rfl) (by rw [hi]; decide))⟩
      · obtain rfl := Option.some.inj ho
        have hsz : 6 < listed.size := by rw [hls]; decide
        have hdep5 : listed.getD 5 false = true := hall ⟨5, .data⟩ (by simp) (by rfl)
        obtain rfl := c5 hdep5
        refine inv_call 46 #[.slice (some ⟨p, o + 95, none⟩) (lx - 95) (kap - 95)] _ rfl rfl (by kernel_rfl) (hcl2 w hbW) ?_
        rintro e w' ⟨sp, cap, rfl, ow, hb⟩
        have hbw : Below B w2 w' := hbW.trans (hb.mono (hsB hbW))
        refine ⟨_, rfl, ?_⟩
        exact ⟨s7, s40, s41, s42, s43, s44, (.slice (some ⟨p, o + 95, none⟩) (lx - 95) (kap - 95)), (.slice sp (lx - 95) cap), s47, rfl, hbw, (fun h => c0 (bit_ne h (by decide))), (fun h => c1 (bit_ne h (by decide))), (fun h h2 => (c2 (bit_ne h (by decide)) (bit_ne h2 (by decide))).below hb), (fun h => c3 (bit_ne h (by decide))), (fun h => c4 (bit_ne h (by decide))), (fun h => c5 (bit_ne h (by decide))), (fun _ _ => ⟨sp, cap, rfl, ow.mono (hsB hbW)⟩), (fun h => c7 (bit_ne h (by decide))), (fun h h2 => (c8 (bit_ne h (by decide)) (bit_ne h2 (by decide))).below hb), (fun h => absurd (hcl 7 _ rfl (hcl 9 _ rfl (bit_ne h (by decide)) ⟨7, .data⟩ (by simp) rfl) ⟨6, .data⟩ (by simp) rfl) (by rw [hi]; decide))⟩
      · obtain rfl := Option.some.inj ho
        have hsz : 7 < listed.size := by rw [hls]; decide
        have hdep2 : listed.getD 2 false = true := hall ⟨2, .data⟩ (by simp) (by rfl)
        obtain ⟨sp2, cap2, rfl, o2⟩ := c2 hdep2 hi
        have hdep3 : listed.getD 3 false = true := hall ⟨3, .data⟩ (by simp) (by rfl)
        obtain rfl := c3 hdep3
        have hdep6 : listed.getD 6 false = true := hall ⟨6, .data⟩ (by simp) (by rfl)
        obtain ⟨sp6, cap6, rfl, o6⟩ := c6 hdep6 hi
        have hbw := hbW
        refine inv_val (w' := w) (.agg (rc (.slice sp2 56 cap2) V (zer 32) (.slice sp6 (lx - 95) cap6))) rfl rfl (by kernel_rfl) ?_
        exact ⟨s7, s40, s41, (.slice sp2 56 cap2), (.int .i64 V), s44, s45, (.slice sp6 (lx - 95) cap6), (.agg (rc (.slice sp2 56 cap2) V (zer 32) (.slice sp6 (lx - 95) cap6))), rfl, hbw, (fun h => c0 (bit_ne h (by decide))), (fun h => c1 (bit_ne h (by decide))), (fun _ h2 => absurd (bit_on hsz) (by rw [h2]; decide)), (fun h => c3 (bit_ne h (by decide))), (fun h => c4 (bit_ne h (by decide))), (fun h => c5 (bit_ne h (by decide))), (fun _ h2 => absurd (bit_on hsz) (by rw [h2]; decide)), (fun _ => ⟨_, rfl, rc_size rfl, rc_one _ _ _ _ rfl rfl⟩), (fun h h2 => c8 (bit_ne h (by decide)) (bit_ne h2 (by decide))), (fun h => absurd (hcl 9 _ rfl (bit_ne h (by decide)) ⟨7, .data⟩ (by simp) rfl) (by rw [hi]; decide))⟩
      · obtain rfl := Option.some.inj ho
        have hsz : 8 < listed.size := by rw [hls]; decide
        have hbw : Below B w2 (w.alloc (.cells zrc 70)) := hbW.alloc (hsB hbW) _
        refine inv_val (.pointer (some ⟨w.heap.size, 0, none⟩)) (w' := w.alloc (.cells zrc 70)) rfl rfl (by kernel_rfl) ?_
        exact ⟨(.pointer (some ⟨w.heap.size, 0, none⟩)), s40, s41, s42, s43, s44, s45, s46, s47, rfl, hbw, (fun h => c0 (bit_ne h (by decide))), (fun h => c1 (bit_ne h (by decide))), (fun h h2 => (c2 (bit_ne h (by decide)) (bit_ne h2 (by decide))).alloc _), (fun h => c3 (bit_ne h (by decide))), (fun h => c4 (bit_ne h (by decide))), (fun h => c5 (bit_ne h (by decide))), (fun h h2 => (c6 (bit_ne h (by decide)) (bit_ne h2 (by decide))).alloc _), (fun h => c7 (bit_ne h (by decide))), (fun _ _ => VarX.new w B (hsB hbW)), (fun h => absurd (hcl 9 _ rfl (bit_ne h (by decide)) ⟨8, .data⟩ (by simp) rfl) (by rw [hi]; decide))⟩
      · obtain rfl := Option.some.inj ho
        have hsz : 9 < listed.size := by rw [hls]; decide
        have hdep8 : listed.getD 8 false = true := hall ⟨8, .data⟩ (by simp) (by rfl)
        have hdep7 : listed.getD 7 false = true := hall ⟨7, .data⟩ (by simp) (by rfl)
        obtain ⟨rc7, rfl, ha7, hx7⟩ := c7 hdep7
        obtain ⟨bV, rfl, rV, hbV⟩ := c8 hdep8 hi
        refine inv_storex 70 (.tmp 7) (.tmp 47) rfl rfl rfl rfl bV rc7 rfl rfl 70 _ rV (by rw [ha7]; kernel_rfl) (by rw [ha7]; rfl) hx7 ?_
        have hbw : Below B w2 (w.setRow bV rc7) := below_setRow hbW hbV _
        exact ⟨(.pointer (some ⟨bV, 0, none⟩)), s40, s41, s42, s43, s44, s45, s46, (.agg rc7), rfl, hbw, (fun h => c0 (bit_ne h (by decide))), (fun h => c1 (bit_ne h (by decide))), (fun _ h2 => absurd hdep7 (by rw [bit_ne h2 (by decide)]; decide)), (fun h => c3 (bit_ne h (by decide))), (fun h => c4 (bit_ne h (by decide))), (fun h => c5 (bit_ne h (by decide))), (fun _ h2 => absurd hdep7 (by rw [bit_ne h2 (by decide)]; decide)), (fun h => c7 (bit_ne h (by decide))), (fun _ h2 => absurd (bit_on hsz) (by rw [h2]; decide)), (fun _ => ⟨bV, _, rfl, rV.setRow _, ha7, hx7, hbV⟩)⟩
    · intro listed a w hall hJ
      obtain ⟨s7, s40, s41, s42, s43, s44, s45, s46, s47, rfl, hbW, c0, c1, c2, c3, c4, c5, c6, c7, c8, c9⟩ := hJ
      obtain rfl := c0 (hall 0 (by decide))
      obtain rfl := c1 (hall 1 (by decide))
      obtain rfl := c3 (hall 3 (by decide))
      obtain rfl := c4 (hall 4 (by decide))
      obtain rfl := c5 (hall 5 (by decide))
      obtain ⟨rc7, rfl, ha7, hx7⟩ := c7 (hall 7 (by decide))
      obtain ⟨b9, RC, rfl, r9, hR9, hO9, hb9⟩ := c9 (hall 9 (by decide))
      have s9 := r9
      have sR := hR9
      have sO := hO9
      have s0 := r0.below hbW hgB0
      have sb : Below w0.heap.size w0 w := rb.trans (hbW.mono (by omega))
      have sg : g0 < b9 := by omega
      clear c0 c1 c2 c3 c4 c5 c6 c7 c8 c9 hall hbW r9 hR9 hO9 hx7 ha7 r0 rb
      generalize w = w5 at *
      go_upto_region 10 with fail
      refine wp_region_quiet_tail 4 (by kernel_rfl) (by kernel_rfl) ?_
      simp only [List.take_succ_cons, List.take_zero, List.drop_succ_cons, List.drop_zero]
      repeat (go_big_quiet_step (fail))
      refine wpQuiet_nil ?_
      rintro _ ⟨nq, rfl⟩
      replace s0 := s0.drewN nq
      replace s9 := s9.drewN nq
      replace sb := below_drewN sb nq
      refine copy_rc (w := w5.drewN nq) (.tmp 49) (.tmp 51) (by rfl) (by rfl) b9 p (o + 61) (lx - 61) (kap - 61) (by rfl) (by rfl) RC N32 s9 sR sO l32 (by omega) (B32.below sb) ?_
      intro RD hD hDO
      simp only [Act.put, List.setIfInBounds_toArray, List.set_cons_succ, List.set_cons_zero]
      have t0 := s0.setRowOther (g := b9) (by omega) RD
      have t9 := s9.setRow RD
      have tb := below_setRow (g := b9) sb (by omega) RD
      generalize (w5.drewN nq).setRow b9 RD = w6 at t0 t9 tb ⊢
      go_wp2_with (first | (refine wpList_load_row (by rfl) 70 (.tmp 7) (by rfl) b9 (by rfl) 70 RD (0, 0) _ t9 Try.underlying70 rfl (info70 hD) ?_) | (refine store_row0 70 (.tmp 2) (.tmp 53) (by rfl) (by rfl) (by rfl) g0 RD (by rfl) (by rfl) 70 _ t0 (info70 hD) (by rw [hD]; exact zrc_size) hDO ?_))
      exact bodyPost_ret (results_row_tmp Try.results29 _ _ g0 70 RD _ rfl (t0.setRow _) Try.underlying70 rfl (info70 hD)) rfl ⟨RD, rfl, hD, hDO, below_setRow tb hg0' _⟩
end Go.Proofs.Ytgcffdnbihfghaa
