/- ParseInode: any bytes. No old memory turns. -/
import Derived.Test.YtgcffdnbihfghaaRParse
import Derived.Test.YtgcffdnbihfghaaBend
namespace Go.Proofs.Ytgcffdnbihfghaa
open Go Go.RowKit
theorem loop_list (bs : ByteArray) : ∀ n i r, bs.size - i = n → ByteArray.toList.loop bs i r = r.reverse ++ bs.data.toList.drop i := by
  intro n
  induction n with
  | zero =>
    intro i r h
    have hi : ¬ i < bs.size := by omega
    rw [ByteArray.toList.loop.eq_def, if_neg hi, List.drop_eq_nil_of_le (by have : bs.data.toList.length = bs.size := rfl
                                                                            omega)]
    simp
  | succ n ih =>
    intro i r h
    have hi : i < bs.size := by omega
    have hl : i < bs.data.toList.length := hi
    rw [ByteArray.toList.loop.eq_def, if_pos hi, ih (i + 1) _ (by omega), List.drop_eq_getElem_cons hl]
    have hl2 : i < bs.data.size := hi
    simp [ByteArray.get!, getElem!_pos bs.data i hl2]
theorem list_of (bs : ByteArray) : bs.toList = bs.data.toList := by
  unfold ByteArray.toList
  rw [loop_list bs _ 0 [] rfl]
  simp
theorem u8_inj {a b : Int} (ha : 0 ≤ a ∧ a < 256) (hb : 0 ≤ b ∧ b < 256) (h : UInt8.ofNat a.toNat = UInt8.ofNat b.toNat) : a = b := by
  have h1 := congrArg UInt8.toNat h
  simp only [UInt8.toNat_ofNat'] at h1
  omega
theorem map_inj8 : ∀ {a b : List Int}, (∀ x ∈ a, 0 ≤ x ∧ x < 256) → (∀ x ∈ b, 0 ≤ x ∧ x < 256) → (a.map fun n => UInt8.ofNat n.toNat) = (b.map fun n => UInt8.ofNat n.toNat) → a = b
  | [], [], _, _, _ => rfl
  | [], _ :: _, _, _, h => by simp at h
  | _ :: _, [], _, _, h => by simp at h
  | x :: a, y :: b, ha, hb, h => by
    simp only [List.map_cons, List.cons.injEq] at h
    rw [u8_inj (ha x (by simp)) (hb y (by simp)) h.1, map_inj8 (fun z hz => ha z (by simp [hz])) (fun z hz => hb z (by simp [hz])) h.2]
theorem str_inj8 {a b : List Int} (ha : ∀ x ∈ a, 0 ≤ x ∧ x < 256) (hb : ∀ x ∈ b, 0 ≤ x ∧ x < 256) (h : a ≠ b) : (!((strOfNums a).toList == (strOfNums b).toList)) = true := by
  simp only [list_of, strOfNums_data, Bool.not_eq_true', beq_eq_false_iff_ne, ne_eq]
  exact fun e => h (map_inj8 ha hb e)


theorem str_eq8 {a b : List Int} (ha : By a) (hb : By b) : ((strOfNums a).toList == (strOfNums b).toList) = decide (a = b) := by
  by_cases h : a = b
  · subst h; simp
  · have := str_inj8 ha hb h
    rw [decide_eq_false h]
    simpa using this
set_option maxRecDepth 20000 in
set_option maxHeartbeats 1000000 in
theorem equal_any (x y : List Int) (sp sq : Option Addr) (nx ny c d : Nat) (w : World) (hx : Bytes w sp x) (hy : Bytes w sq y) (hnx : x.length = nx) (hny : y.length = ny) (bx : By x) (bY : By y) :
    Calls Try.prog 36 #[.slice sp nx c, .slice sq ny d] w fun e w' => e = .returned (.bool (decide (x = y))) ∧ w' = w := by
  have h1 := run_str w sp nx c x hnx hx
  have h2 := run_str w sq ny d y hny hy
  have h3 := str_eq8 bx bY
  generalize decide (x = y) = R at *
  generalize strOfNums x = sx at *
  generalize strOfNums y = sy at *
  clear hx hy bx bY
  go_enter Try.func36, Try.ntmps36
  go_wp2
  go_ret
  exact ⟨rfl, rfl⟩
theorem by_n4 (q : Int) : By (n4 q) := fun x hx => by
  simp only [n4, List.mem_cons, List.not_mem_nil, or_false] at hx
  rcases hx with rfl | rfl | rfl | rfl <;> omega
theorem by_one {x : Int} (h : 0 ≤ x ∧ x < 256) : By [x] := fun y hy => by
  simp only [List.mem_cons, List.not_mem_nil, or_false] at hy
  subst hy; exact h
theorem by_encN {n : Nd} (h : errN n = 0) (ht : By n.top) : By (encN n) := by
  have hk := errN_kind (n := n) (by rw [h]; decide)
  have hl : 0 ≤ n.levels ∧ n.levels ≤ 5 := by
    have : okN n = true := by
      unfold errN at h
      by_cases h0 : n.kind ≠ 1 ∧ n.kind ≠ 2
      · rw [if_pos h0] at h; exact absurd h (by decide)
      · rw [if_neg h0] at h
        by_cases h1 : okN n = true
        · exact h1
        · rw [if_neg h1] at h; exact absurd h (by decide)
    rw [(okN_levels this).1]; exact lvl_range _
  unfold encN
  have h2 : By [105, n.kind] := fun x hx => by
    simp only [List.mem_cons, List.not_mem_nil, or_false] at hx
    rcases hx with rfl | rfl <;> omega
  exact ((By.append (By.append h2 (by_n4 _)) (by_one (by omega)))).append ht
theorem n4_be {r : List Int} (hl : r.length = 4) (hb : By r) : n4 (beN r 4) = r := by
  have h0 := gi_by hb 0 (by omega)
  have h1 := gi_by hb 1 (by omega)
  have h2 := gi_by hb 2 (by omega)
  have h3 := gi_by hb 3 (by omega)
  rw [beN_four]
  obtain ⟨a, b, c, d, rfl⟩ : ∃ a b c d, r = [a, b, c, d] := by
    match r, hl with
    | [a, b, c, d], _ => exact ⟨a, b, c, d, rfl⟩
  simp only [gi, List.getD_cons_zero, List.getD_cons_succ] at *
  simp only [n4, List.cons.injEq, and_true]
  omega
/-- What an inode of thirty-nine bytes is written as. -/
theorem encN_parN {b : List Int} (hl : 39 ≤ b.length) (hb : By b) : encN (parN b) = b.take 39 ↔ gi b 0 = 105 := by
  have e : encN (parN b) = [105, gi b 1] ++ (b.drop 2).take 4 ++ [gi b 6] ++ (b.drop 7).take 32 := by
    show [105, gi b 1] ++ n4 (beN ((b.drop 2).take 4) 4) ++ [gi b 6] ++ (b.drop 7).take 32 = _
    rw [n4_be (by simp; omega) (hb.sub 2 4)]
  have e2 : b.take 39 = [gi b 0, gi b 1] ++ (b.drop 2).take 4 ++ [gi b 6] ++ (b.drop 7).take 32 := by
    match b, hl with
    | a0 :: a1 :: a2 :: a3 :: a4 :: a5 :: a6 :: t, _ => simp [gi]
  rw [e, e2]
  constructor
  · intro h
    simp only [List.append_assoc, List.cons_append, List.cons.injEq] at h
    exact h.1.symm
  · intro h; rw [h]
theorem copy_top {w : World} {ops : Array Oper} {rest : List Oper} {o : Oper} {a : Act} {Q : Exit → Act → World → Prop} (d s : Operand)
    (ho : o.op = .call { callee := .builtin .copy, args := #[d, s], argTypes := #[27, 27] }) (hgd : o.guard = none)
    (g p q sLen sCap : Nat) (hd : a.eval d = .slice (some ⟨g, 3, none⟩) 32 32) (hs : a.eval s = .slice (some ⟨p, q, none⟩) sLen sCap) (x y z : Int) (t0 t : List Int)
    (hg : Row w g 25 (nc ⟨x, y, z, t0⟩)) (h0 : t0.length = 32) (ht : t.length = 32) (hl : 32 ≤ sLen) (hsp : Bytes w (some ⟨p, q, none⟩) t)
    (hk : wpList Try.prog ops Q rest (a.put o.dst (.int .i64 32)) (w.setRow g (nc ⟨x, y, z, t⟩))) : wpList Try.prog ops Q (o :: rest) a w := by
  obtain ⟨b, ob, e, hsrc⟩ := hsp (by omega)
  cases e
  refine wpList_copy_own hgd d s 27 27 ho 5 Try.underlying27 (by kernel_rfl) g 3 32 32 ⟨p, q, none⟩ sLen sCap hd hs (nc ⟨x, y, z, t0⟩) 25 hg (t.map (Value.int .u8)) (by rw [List.length_map, ht]; exact (Nat.min_eq_right hl).symm) (fun j v hv => ?_) (by rw [List.length_map, ht, nc_size h0]; decide) (fun v hv => ?_) ?_
  · rw [Addr.add_mid]
    have hj : j < t.length := by
      have := (List.getElem?_eq_some_iff.1 hv).1; simpa using this
    rw [hsrc j hj, ← hv]; simp [gi, hj]
  · obtain ⟨x, _, rfl⟩ := List.mem_map.1 hv; rfl
  · have e : ((nc ⟨x, y, z, t0⟩).toList.take 3 ++ (t.map (Value.int .u8) ++ (nc ⟨x, y, z, t0⟩).toList.drop (3 + (t.map (Value.int .u8)).length))).toArray = nc ⟨x, y, z, t⟩ := by
      simp [nc, h0, ht]
    rw [e]; simpa [goInt, ht] using hk

set_option maxRecDepth 20000 in
set_option maxHeartbeats 1000000 in
theorem parse_short (b : List Int) (sp : Option Addr) (cap : Nat) (w : World) (hl : b.length < 39) :
    Calls Try.prog 14 #[.slice sp b.length cap] w (Reads b w) := by
  have hE : pErr b = 8 := by unfold pErr; rw [if_pos hl]
  have hN : pNd b = zeroN := by unfold pNd; rw [hE, if_neg (by decide)]
  unfold Reads
  rw [hE, hN]
  generalize b.length = n at *
  have hr := Row.new w 25 (nc zeroN)
  have hb : Below w.heap.size w (w.alloc (.cells (nc zeroN) 25)) := (Below.refl _ _).alloc (Nat.le_refl _) _
  go_enter Try.func14, Try.ntmps14
  go_wp2_with (refine store_row0 25 (.tmp 2) (.tmp 10) (by rfl) (by rfl) (by rfl) w.heap.size (nc zeroN) (by rfl) (by rfl) 25 _ hr (info25 rfl) (by rfl) (nc_one _) ?_)
  exact bodyPost_ret (results_row_tmp Try.results14 _ _ w.heap.size 25 (nc zeroN) _ rfl (hr.setRow _) Try.underlying25 rfl (info25 rfl)) rfl ⟨rfl, below_setRow hb (Nat.le_refl _) _⟩

set_option maxRecDepth 20000 in
set_option maxHeartbeats 1000000 in
theorem parse_long (b : List Int) (p o cap : Nat) (w : World) (hl : 39 ≤ b.length) (hm : b.length ≤ 1000000) (hc : b.length ≤ cap) (hby : Bytes w (some ⟨p, o, none⟩) b) (hy : By b) :
    Calls Try.prog 14 #[.slice (some ⟨p, o, none⟩) b.length cap] w (Reads b w) := by
  obtain ⟨p', o', e, hcl⟩ := hby (by omega)
  cases e
  have hp : p < w.heap.size := block_lt_of_cell (hcl 0 (by omega))
  have hx1 := hcl 1 (by omega)
  have hx6 := hcl 6 (by omega)
  have q1 := gi_by hy 1 (by omega)
  have q6 := gi_by hy 6 (by omega)
  have htl : ((b.drop 7).take 32).length = 32 := by simp; omega
  have hsl : ((b.drop 2).take 4).length = 4 := by simp; omega
  have h39l : (b.take 39).length = 39 := by simp; omega
  have hnum := fun wx (h : Bytes wx (some ⟨p, o + 2, none⟩) ((b.drop 2).take 4)) => number_any ((b.drop 2).take 4) (some ⟨p, o + 2, none⟩) (cap - 2) wx h (hy.sub 2 4) (by omega)
  have hs2 := hby.sub 2 4
  have hs7 := hby.sub 7 32
  have hs39 := hby.take 39
  have hin := fun wx => inode_any (parN b) wx (by unfold parN; exact htl)
  have heqv := fun wx (sp' : Option Addr) c' (h0 : errN (parN b) = 0) (h1 : Bytes wx sp' (encN (parN b))) (h2 : Bytes wx (some ⟨p, o, none⟩) (b.take 39)) => equal_any (encN (parN b)) (b.take 39) sp' (some ⟨p, o, none⟩) 39 39 c' cap wx h1 h2 (encN_len htl) h39l (by_encN h0 (hy.sub 7 32)) (fun x hx => hy x (List.mem_of_mem_take hx))
  have hdec : decide (encN (parN b) = b.take 39) = decide (gi b 0 = 105) := decide_eq_decide.2 (encN_parN hl hy)
  rw [hdec] at heqv
  have hiN : (Try.prog.info? 25).map (·.size) = some (nc (parN b)).size := info25 htl
  have hnl : (nc zeroN).size = (nc (parN b)).size := by rw [nc_size (n := parN b) htl]; rfl
  have hEd : Hid (pErr b = if gi b 0 ≠ 105 ∨ errN (parN b) ≠ 0 then 11 else if b.length > 39 then 9 else 0) := ⟨by unfold pErr; rw [if_neg (by omega)]⟩
  have hNd : Hid (pNd b = if pErr b = 0 then parN b else zeroN) := ⟨rfl⟩
  have hOo : errN (parN b) = 0 → outN (parN b) = encN (parN b) := outN_ok
  have hOl : (encN (parN b)).length = 39 := encN_len htl
  unfold Reads
  have hpn : nc (parN b) = nc ⟨gi b 1, beN ((b.drop 2).take 4) 4, gi b 6, (b.drop 7).take 32⟩ := rfl
  have hiM : (Try.prog.info? 25).map (·.size) = some (nc ⟨gi b 1, beN ((b.drop 2).take 4) 4, gi b 6, zer 32⟩).size := info25 rfl
  rw [hsl] at hnum
  generalize parN b = n at *
  generalize pErr b = E at *
  generalize pNd b = R at *
  generalize b.take 39 = t39 at *
  generalize (b.drop 7).take 32 = tp at *
  generalize (b.drop 2).take 4 = sb at *
  generalize beN sb 4 = sz at *
  generalize gi b 0 = x0 at *
  generalize gi b 1 = x1 at *
  generalize gi b 6 = x6 at *
  clear hcl hdec
  generalize b.length = len at *
  generalize encN n = EN at *
  have hrz := Row.new w 25 (nc zeroN)
  have hb : Below w.heap.size w (w.alloc (.cells (nc zeroN) 25)) := (Below.refl _ _).alloc (Nat.le_refl _) _
  obtain ⟨g0, hg0⟩ : ∃ g0, w.heap.size = g0 := ⟨_, rfl⟩
  go_enter Try.func14, Try.ntmps14
  go_upto_region 3 with fail
  change Code.wp _ _ _ _ (w.alloc (.cells (nc zeroN) 25))
  rw [hg0] at hrz
  try simp only [hg0]
  generalize w.alloc (.cells (nc zeroN) 25) = w1 at *
  refine region_alloc 12 25 (nc zeroN) 4 (by kernel_rfl) (by kernel_rfl) (by rfl) (by kernel_rfl) ?hal ?hh
  case hal =>
    intro a w o ho
    cases ho
    kernel_rfl
  case hh =>
    apply Exists.intro
    refine ⟨fun ι _ W hbW hc => ?_, fun g1 w2 hg1 hbel hrow => ?_⟩
    · have hW : ∀ i, Below w.heap.size w (W i) := fun i => hb.trans ((hbW i).mono hb.size)
      have t1 : ∀ i, (W i).cell? ⟨p, o + 1, none⟩ = some (.int .u8 x1) := fun i => by rw [(hW i).cell (p := ⟨p, o + 1, none⟩) hp]; exact hx1
      have t6 : ∀ i, (W i).cell? ⟨p, o + 6, none⟩ = some (.int .u8 x6) := fun i => by rw [(hW i).cell (p := ⟨p, o + 6, none⟩) hp]; exact hx6
      simp only [List.take_succ_cons, List.take_zero]
      iterate 6 (go_big_quiet_step (fail))
      go_big_quiet_step ((go_at_call 35; exact (hnum _ (hs2.below (hW _))).mono (fun e w' ⟨he, hw⟩ => ⟨he, _, hw⟩)))
      iterate 5 (go_big_quiet_step (fail))
      exact wpQuiet_nil rfl
    · simp only [List.drop_succ_cons, List.drop_zero, Act.put, List.setIfInBounds_toArray, List.set_cons_succ, List.set_cons_zero]
      refine store_row0 25 (.tmp 4) (.tmp 22) (by rfl) (by rfl) (by rfl) g1 (nc ⟨x1, sz, x6, zer 32⟩) (by rfl) (by rfl) 25 _ hrow hiM rfl (nc_one _) ?_
      have hg01 : g0 < g1 := by have := hrz.lt; omega
      have hiZ : (Try.prog.info? 25).map (·.size) = some (nc zeroN).size := info25 rfl
      have r0 := (hrz.below hbel hrz.lt).setRowOther (g := g1) (by omega) (nc ⟨x1, sz, x6, zer 32⟩)
      have r1 := hrow.setRow (nc ⟨x1, sz, x6, zer 32⟩)
      have rb := below_setRow (g := g1) (hb.trans (hbel.mono hb.size)) (by omega) (nc ⟨x1, sz, x6, zer 32⟩)
      generalize w2.setRow g1 (nc ⟨x1, sz, x6, zer 32⟩) = w3 at r0 r1 rb ⊢
      clear hrow hbel hrz hb hnum hs2 hby hx1 hx6
      go_upto_region 4 with fail
      refine wp_region_quiet_tail 4 (by kernel_rfl) (by kernel_rfl) ?_
      simp only [List.take_succ_cons, List.take_zero, List.drop_succ_cons, List.drop_zero]
      repeat (go_big_quiet_step (fail))
      refine wpQuiet_nil ?_
      rintro _ ⟨nq, rfl⟩
      replace rb := below_drewN rb nq
      refine copy_top (w := w3.drewN nq) (.tmp 24) (.tmp 26) (by rfl) (by rfl) g1 p (o + 7) (len - 7) (cap - 7) (by rfl) (by rfl) x1 sz x6 (zer 32) tp (r1.drewN nq) rfl htl (by omega) (hs7.below rb) ?_
      simp only [Act.put, List.setIfInBounds_toArray, List.set_cons_succ, List.set_cons_zero]
      rw [← hpn]
      have s0 := (r0.drewN nq).setRowOther (g := g1) (by omega) (nc n)
      have s1 := (r1.drewN nq).setRow (nc n)
      have sb2 := below_setRow (g := g1) rb (by omega) (nc n)
      generalize (w3.drewN nq).setRow g1 (nc n) = w4 at s0 s1 sb2 ⊢
      clear r0 r1 rb hs7 hpn hiM
      have hin4 := hin w4
      unfold Gives at hin4
      by_cases h1 : errN n = 0
      · rw [h1] at hin4 hEd
        rw [hOo h1, hOl] at hin4
        have heq4 := fun wx (sp' : Option Addr) c' => heqv wx sp' c' h1
        clear hin heqv hOo
        by_cases h0 : x0 = 105
        · rw [decide_eq_true h0] at heq4
          by_cases h2 : len > 39
          · obtain rfl : E = 9 := by rw [hEd.out, if_neg (by simp [h0]), if_pos h2]
            obtain rfl : R = zeroN := by rw [hNd.out, if_neg (by decide)]
            clear hEd hNd
            go_wp2_with (first | (refine wpList_load_row (by rfl) 25 (.tmp 4) (by rfl) g1 (by rfl) 25 (nc n) (0, 0) _ s1 Try.underlying25 rfl hiN ?_) | (go_at_call 11; (with_reducible refine Calls.mono hin4 ?_); rintro e w5 ⟨sp5, cap5, rfl, o5, hb5⟩; have z0 := s0.below hb5 s0.lt; have z1 := s1.below hb5 s1.lt; have zb := sb2.trans (hb5.mono sb2.size)) | (go_at_call 36; (with_reducible refine Calls.mono (heq4 _ _ _ o5.bytes (hs39.below zb)) ?_); rintro e w6 ⟨rfl, hw⟩; obtain rfl := hw.symm; clear hw) | (refine store_row0 25 (.tmp 2) (.tmp 46) (by rfl) (by rfl) (by rfl) g0 (nc zeroN) (by rfl) (by rfl) 25 _ z0 hiZ rfl (nc_one _) ?_))
            exact bodyPost_ret (results_row_tmp Try.results14 _ _ g0 25 (nc zeroN) _ rfl (z0.setRow _) Try.underlying25 rfl hiZ) rfl ⟨rfl, below_setRow (by first | exact zb | (rw [← hg0]; exact zb)) (by omega) _⟩
          · obtain rfl : E = 0 := by rw [hEd.out, if_neg (by simp [h0]), if_neg h2]
            obtain rfl : R = n := by rw [hNd.out, if_pos rfl]
            clear hEd hNd
            go_wp2_with (first | (refine wpList_load_row (by rfl) 25 (.tmp 4) (by rfl) g1 (by rfl) 25 (nc R) (0, 0) _ s1 Try.underlying25 rfl hiN ?_) | (go_at_call 11; (with_reducible refine Calls.mono hin4 ?_); rintro e w5 ⟨sp5, cap5, rfl, o5, hb5⟩; have z0 := s0.below hb5 s0.lt; have z1 := s1.below hb5 s1.lt; have zb := sb2.trans (hb5.mono sb2.size)) | (go_at_call 36; (with_reducible refine Calls.mono (heq4 _ _ _ o5.bytes (hs39.below zb)) ?_); rintro e w6 ⟨rfl, hw⟩; obtain rfl := hw.symm; clear hw) | (refine wpList_load_row (by rfl) 25 (.tmp 4) (by rfl) g1 (by rfl) 25 (nc R) (0, 0) _ z1 Try.underlying25 rfl hiN ?_) | (refine store_row0 25 (.tmp 2) (.tmp 47) (by rfl) (by rfl) (by rfl) g0 (nc R) (by rfl) (by rfl) 25 _ z0 hiN hnl (nc_one _) ?_))
            exact bodyPost_ret (results_row_tmp Try.results14 _ _ g0 25 (nc R) _ rfl (z0.setRow _) Try.underlying25 rfl hiN) rfl ⟨rfl, below_setRow (by first | exact zb | (rw [← hg0]; exact zb)) (by omega) _⟩
        · rw [decide_eq_false h0] at heq4
          obtain rfl : E = 11 := by rw [hEd.out, if_pos (.inl h0)]
          obtain rfl : R = zeroN := by rw [hNd.out, if_neg (by decide)]
          clear hEd hNd
          go_wp2_with (first | (refine wpList_load_row (by rfl) 25 (.tmp 4) (by rfl) g1 (by rfl) 25 (nc n) (0, 0) _ s1 Try.underlying25 rfl hiN ?_) | (go_at_call 11; (with_reducible refine Calls.mono hin4 ?_); rintro e w5 ⟨sp5, cap5, rfl, o5, hb5⟩; have z0 := s0.below hb5 s0.lt; have z1 := s1.below hb5 s1.lt; have zb := sb2.trans (hb5.mono sb2.size)) | (go_at_call 36; (with_reducible refine Calls.mono (heq4 _ _ _ o5.bytes (hs39.below zb)) ?_); rintro e w6 ⟨rfl, hw⟩; obtain rfl := hw.symm; clear hw) | (refine store_row0 25 (.tmp 2) (.tmp 42) (by rfl) (by rfl) (by rfl) g0 (nc zeroN) (by rfl) (by rfl) 25 _ z0 hiZ rfl (nc_one _) ?_))
          exact bodyPost_ret (results_row_tmp Try.results14 _ _ g0 25 (nc zeroN) _ rfl (z0.setRow _) Try.underlying25 rfl hiZ) rfl ⟨rfl, below_setRow (by first | exact zb | (rw [← hg0]; exact zb)) (by omega) _⟩
      · obtain rfl : E = 11 := by rw [hEd.out, if_pos (.inr h1)]
        obtain rfl : R = zeroN := by rw [hNd.out, if_neg (by decide)]
        clear hEd hNd heqv hOo hin
        have h1b : (errN n != 0) = true := by simpa using h1
        generalize errN n = en at *
        generalize outN n = ON at *
        go_wp2_with (first | (refine wpList_load_row (by rfl) 25 (.tmp 4) (by rfl) g1 (by rfl) 25 (nc n) (0, 0) _ s1 Try.underlying25 rfl hiN ?_) | (go_at_call 11; (with_reducible refine Calls.mono hin4 ?_); rintro e w5 ⟨sp5, cap5, rfl, o5, hb5⟩; have z0 := s0.below hb5 s0.lt; have z1 := s1.below hb5 s1.lt; have zb := sb2.trans (hb5.mono sb2.size)) | (go_at_call 36; (with_reducible refine Calls.mono (heq4 _ _ _ o5.bytes (hs39.below zb)) ?_); rintro e w6 ⟨rfl, hw⟩; obtain rfl := hw.symm; clear hw) | (refine store_row0 25 (.tmp 2) (.tmp 42) (by rfl) (by rfl) (by rfl) g0 (nc zeroN) (by rfl) (by rfl) 25 _ z0 hiZ rfl (nc_one _) ?_))
        exact bodyPost_ret (results_row_tmp Try.results14 _ _ g0 25 (nc zeroN) _ rfl (z0.setRow _) Try.underlying25 rfl hiZ) rfl ⟨rfl, below_setRow (by first | exact zb | (rw [← hg0]; exact zb)) (by omega) _⟩
theorem parse_any (b : List Int) (sp : Option Addr) (cap : Nat) (w : World) (hm : b.length ≤ 1000000) (hc : b.length ≤ cap) (hby : Bytes w sp b) (hy : By b) :
    Calls Try.prog 14 #[.slice sp b.length cap] w (Reads b w) := by
  by_cases hl : b.length < 39
  · exact parse_short b sp cap w hl
  · obtain ⟨p, o, rfl, _⟩ := hby (by omega)
    exact parse_long b p o cap w (by omega) hm hc hby hy
end Go.Proofs.Ytgcffdnbihfghaa
