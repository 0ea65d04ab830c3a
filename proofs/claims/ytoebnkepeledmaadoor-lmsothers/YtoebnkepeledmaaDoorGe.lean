/- Arguments carried over and opened; the first steps of lms. -/
import Derived.Test.YtoebnkepeledmaaDoorGc
import Derived.Test.YtoebnkepeledmaaDoorGd
import Derived.ProofKit
namespace Go.Proofs.YtoebnkepeledmaaDoor

section
open Go.ChangeShapes Go.WideShapes Go.ChangeAt Go.RowKit

set_option maxRecDepth 20000 in
theorem open_id {H : Type} {enc : TypeId × Value → H} {w : World} {base : Nat} {sp : Nat → Bool} {held : Bool} {r : Reach} {b0 : Nat} {v : Value} {d : DataW H} {p : List MemPlace}
    (hv : Value.okWide Tryd.prog w r b0 24 v) (h : DataW.Trod enc Tryd.prog w base sp held 24 v d p) : ∃ l : List Int, v = .agg (v8 l) ∧ l.length = 32 ∧ In8 l := by
  have hcs : ∃ cs, v = .agg cs ∧ cs.size = Tryd.prog.cellsOf 24 := by
    simp only [Value.okWide, Tryd.underlying24] at hv
    obtain ⟨cs, h1, h2, _⟩ := hv
    exact ⟨cs, h1, h2⟩
  obtain ⟨cs, rfl, hsz⟩ := hcs
  have c5 : Tryd.prog.cellsOf 5 = 1 := by kernel_rfl
  have c23 : Tryd.prog.cellsOf 24 = 32 := by kernel_rfl
  obtain ⟨fuel, hf⟩ := h
  obtain ⟨xs, m, rfl, hx, hlen, hn, hel⟩ := DataW.trod_array Tryd.underlying24 hf
  simp only [Value.cells] at hlen hel
  rw [c5] at hel
  have hpt : ∀ i, i < 32 → ∃ z : Int, cs.toList[i]? = some (.int .u8 z) ∧ 0 ≤ z ∧ z < 256 := fun i hi => by
    have h1 := hel i hi
    have hxi : xs[i]? = some xs[i] := List.getElem?_eq_getElem (by omega)
    rw [hxi] at h1
    obtain ⟨z, e1, _, hwf⟩ := DataW.trod_int Tryd.underlying5 h1
    refine ⟨z, ?_, ?_⟩
    · rw [Nat.mul_one] at e1
      have hl : i < cs.toList.length := by rw [Array.length_toList, hsz, c23]; exact hi
      rw [List.drop_eq_getElem_cons hl] at e1
      simp only [List.take_succ_cons, List.take_zero, List.cons.injEq, and_true] at e1
      rw [List.getElem?_eq_getElem hl, e1]
    · have h1 : IntKind.u8.min = 0 := rfl
      have h2 : IntKind.u8.max = 255 := rfl
      simp only [Lit.wf, Bool.and_eq_true, decide_eq_true_eq] at hwf
      omega
  refine ⟨cs.toList.map (fun c => intOf c), ?_, by simp [hsz, c23], in8_of_all fun x hx => ?_⟩
  · congr 1
    unfold v8
    apply Array.ext
    · simp
    · intro i h1 h2
      obtain ⟨z, hz, _⟩ := hpt i (by rw [hsz, c23] at h1; exact h1)
      have : cs[i] = .int .u8 z := by simpa [Array.getElem?_eq_getElem h1] using hz
      simp [this, intOf]
  · obtain ⟨c, hc, rfl⟩ := List.mem_map.1 hx
    obtain ⟨i, hi, rfl⟩ := List.getElem_of_mem hc
    obtain ⟨z, hz, hb⟩ := hpt i (by simpa [hsz, c23] using hi)
    rw [List.getElem?_eq_getElem hi] at hz
    rw [Option.some.inj hz]; exact hb

set_option maxRecDepth 20000 in
theorem open_name {H : Type} {enc : TypeId × Value → H} {w : World} {base : Nat} {sp : Nat → Bool} {held : Bool} {r : Reach} {b0 : Nat} {v : Value} {d : DataW H} {p : List MemPlace}
    (hv : Value.okWide Tryd.prog w r b0 22 v) (h : DataW.Trod enc Tryd.prog w base sp held 22 v d p) : ∃ l : List Int, v = .agg (v8 l) ∧ l.length = 16 ∧ In8 l := by
  have hcs : ∃ cs, v = .agg cs ∧ cs.size = Tryd.prog.cellsOf 22 := by
    simp only [Value.okWide, Tryd.underlying22] at hv
    obtain ⟨cs, h1, h2, _⟩ := hv
    exact ⟨cs, h1, h2⟩
  obtain ⟨cs, rfl, hsz⟩ := hcs
  have c5 : Tryd.prog.cellsOf 5 = 1 := by kernel_rfl
  have c23 : Tryd.prog.cellsOf 22 = 16 := by kernel_rfl
  obtain ⟨fuel, hf⟩ := h
  obtain ⟨xs, m, rfl, hx, hlen, hn, hel⟩ := DataW.trod_array Tryd.underlying22 hf
  simp only [Value.cells] at hlen hel
  rw [c5] at hel
  have hpt : ∀ i, i < 16 → ∃ z : Int, cs.toList[i]? = some (.int .u8 z) ∧ 0 ≤ z ∧ z < 256 := fun i hi => by
    have h1 := hel i hi
    have hxi : xs[i]? = some xs[i] := List.getElem?_eq_getElem (by omega)
    rw [hxi] at h1
    obtain ⟨z, e1, _, hwf⟩ := DataW.trod_int Tryd.underlying5 h1
    refine ⟨z, ?_, ?_⟩
    · rw [Nat.mul_one] at e1
      have hl : i < cs.toList.length := by rw [Array.length_toList, hsz, c23]; exact hi
      rw [List.drop_eq_getElem_cons hl] at e1
      simp only [List.take_succ_cons, List.take_zero, List.cons.injEq, and_true] at e1
      rw [List.getElem?_eq_getElem hl, e1]
    · have h1 : IntKind.u8.min = 0 := rfl
      have h2 : IntKind.u8.max = 255 := rfl
      simp only [Lit.wf, Bool.and_eq_true, decide_eq_true_eq] at hwf
      omega
  refine ⟨cs.toList.map (fun c => intOf c), ?_, by simp [hsz, c23], in8_of_all fun x hx => ?_⟩
  · congr 1
    unfold v8
    apply Array.ext
    · simp
    · intro i h1 h2
      obtain ⟨z, hz, _⟩ := hpt i (by rw [hsz, c23] at h1; exact h1)
      have : cs[i] = .int .u8 z := by simpa [Array.getElem?_eq_getElem h1] using hz
      simp [this, intOf]
  · obtain ⟨c, hc, rfl⟩ := List.mem_map.1 hx
    obtain ⟨i, hi, rfl⟩ := List.getElem_of_mem hc
    obtain ⟨z, hz, hb⟩ := hpt i (by simpa [hsz, c23] using hi)
    rw [List.getElem?_eq_getElem hi] at hz
    rw [Option.some.inj hz]; exact hb

/-- All arguments, carried over. -/
theorem below_trodAll_any {H : Type} {enc : TypeId × Value → H} {P : Program} (hl : laidOutB P = true) {W W' : World} (hb : Below W.heap.size W W') :
    ∀ {ts : List TypeId} {vs : List Value} {ds : List (DataW H)} {ps : List MemPlace}, (ts.all fun t => P.readableRec t && decide (t < P.types.size)) = true →
      DataW.TrodAll enc P W 0 (fun _ => true) true ts vs ds ps → (∀ x ∈ ps, x.block < W.heap.size) → DataW.TrodAll enc P W' 0 (fun b => decide (b < W.heap.size)) true ts vs ds ps := by
  intro ts
  induction ts with
  | nil =>
    intro vs ds ps _ h _
    obtain ⟨rfl, rfl, rfl⟩ := trodAll_nil h
    exact trodAll_mk0
  | cons t ts ih =>
    intro vs ds ps hr h hlt
    obtain ⟨v, vs, d, ds, p, q, rfl, rfl, rfl, h1, h2⟩ := trodAll_cons h
    simp only [List.all_cons, Bool.and_eq_true, decide_eq_true_eq] at hr
    exact ⟨p, q, Below.trod hl hr.1.1 hr.1.2 h1 hb (fun x hx => hlt x (by simp [hx])), ih (by simpa using hr.2) h2 (fun x hx => hlt x (by simp [hx])), rfl⟩
end

section
open Go.ChangeShapes Go.WideShapes Go.ChangeAt Go.RowKit

set_option maxRecDepth 20000 in
theorem open_bytes {H : Type} {enc : TypeId × Value → H} {w : World} {base : Nat} {sp : Nat → Bool} {held : Bool} {r : Reach} {b0 : Nat} {v : Value} {d : DataW H} {p : List MemPlace}
    (hv : Value.okWide Tryd.prog w r b0 28 v) (h : DataW.Trod enc Tryd.prog w base sp held 28 v d p) :
    ∃ (a : Option Addr) (len cap : Nat) (bs : List Int), v = .slice a len cap ∧ bs.length = len ∧ len ≤ cap ∧ cap ≤ maxLen ∧ (a = none → cap = 0 ∧ len = 0) ∧ Bytes w a bs := by
  obtain ⟨a, len, cap, rfl⟩ := okWide_slice Tryd.underlying28 hv
  obtain ⟨fuel, hf⟩ := h
  have c5 : Tryd.prog.cellsOf 5 = 1 := by kernel_rfl
  rcases open_ints Tryd.underlying28 Tryd.underlying5 c5 hf with ⟨hcs, _⟩ | ⟨ad, len', cap', zs, hcs, _, hl, hm, hz, _, hcell, _⟩
  · simp only [Value.cells, List.cons.injEq, and_true] at hcs
    injection hcs with e1 e2 e3
    subst e1; subst e2; subst e3
    exact ⟨none, 0, 0, [], rfl, rfl, Nat.le_refl _, Nat.zero_le _, fun _ => ⟨rfl, rfl⟩, fun h => by cases h⟩
  · simp only [Value.cells, List.cons.injEq, and_true] at hcs
    injection hcs with e1 e2 e3
    subst e1; subst e2; subst e3
    have hzl : len ≤ zs.length := by rw [hz]; split <;> omega
    refine ⟨some ad, len, cap, zs.take len, rfl, by simp; omega, hl, hm, fun h => (by cases h), fun hp => ?_⟩
    have hp' : 0 < len := by simp at hp; omega
    have h0 : ad.spot = none := World.cell?_spot (hcell 0 (by omega))
    obtain ⟨b, o, s⟩ := ad
    simp only at h0
    subst h0
    refine ⟨b, o, rfl, fun j hj => ?_⟩
    have hj' : j < len := by simp at hj; omega
    have h1 := hcell j (by omega)
    have e : (zs.take len).length = len := by simp; omega
    have e2 : gi (zs.take len) j = zs.getD j 0 := by
      simp [gi, List.getD, List.getElem?_take_of_lt hj']
    rw [e2]
    by_cases hj0 : j = 0
    · subst hj0; simpa [Addr.add] using h1
    · simpa [Addr.add, hj0] using h1

theorem Own8.row {w : World} {B : Nat} {e : TypeId} {sp : Option Addr} {n cap : Nat} {l : List Int} (h : Own8 w B e (.slice sp n cap) l) (hp : 0 < l.length) :
    ∃ g cur, sp = some ⟨g, 0, none⟩ ∧ n ≤ cap ∧ B ≤ g ∧ Row w g e cur ∧ ∀ j, j < l.length → w.cell? ⟨g, j, none⟩ = some (.int .u8 (gi l j)) := by
  have hb := h.bytes hp
  obtain ⟨b, o, e1, hc⟩ := hb
  obtain ⟨hl, h⟩ := h
  rcases h with ⟨_, h0⟩ | ⟨g, cap', cur, hv, hg, hh, hn, _⟩
  · omega
  · injection hv with e2 e4 e5
    subst e2; subst e4; subst e5
    injection e1 with e1; injection e1 with e1 e3
    subst e1; subst e3
    exact ⟨g, cur, rfl, hn, hg, hh, fun j hj => by have := hc j hj; rwa [Nat.zero_add] at this⟩

/-- One byte of a slice of one's own is turned. -/
theorem bytes_set {w : World} {g : Nat} {l : List Int} (j : Nat) (x : Int) (hj : j < l.length) (hc : ∀ i, i < l.length → w.cell? ⟨g, i, none⟩ = some (.int .u8 (gi l i))) :
    Bytes (w.setCell ⟨g, j, none⟩ (.int .u8 x)) (some ⟨g, 0, none⟩) (l.set j x) := fun _ => by
  refine ⟨g, 0, rfl, fun i hi => ?_⟩
  rw [List.length_set] at hi
  rw [Nat.zero_add]
  by_cases h : j = i
  · subst h
    rw [World.cell?_setCell_same _ _ _ (hc j hj)]
    simp [gi, hj]
  · rw [World.cell?_setCell_other _ _ _ _ (fun e => h (by injection e)), hc i hi]
    simp [gi, List.getElem?_set_ne h]
end

section
open Go.ChangeShapes Go.WideShapes Go.ChangeAt Go.RowKit

set_option maxRecDepth 20000 in
theorem open_data {H : Type} {enc : TypeId × Value → H} {w : World} {base : Nat} {sp : Nat → Bool} {held : Bool} {a : Option Addr} {len cap : Nat} {d : DataW H} {p : List MemPlace}
    (h : DataW.Trod enc Tryd.prog w base sp held 28 (.slice a len cap) d p) : len = 0 ∨ ∃ xs ys, d = .slice xs ys ∧ xs.length = len := by
  obtain ⟨fuel, hf⟩ := h
  have c5 : Tryd.prog.cellsOf 5 = 1 := by kernel_rfl
  rcases open_ints Tryd.underlying28 Tryd.underlying5 c5 hf with ⟨hcs, _⟩ | ⟨ad, len', cap', zs, hcs, _, hl, hm, hz, hx, _, _⟩
  · simp only [Value.cells, List.cons.injEq, and_true] at hcs
    injection hcs with _ e2
    exact .inl e2
  · simp only [Value.cells, List.cons.injEq, and_true] at hcs
    injection hcs with e1 e2 e3
    subst e2
    have hzl : len ≤ zs.length := by rw [hz]; split <;> omega
    injection hx with hx1
    exact .inr ⟨_, _, hx1, by simp [lits]; omega⟩
end

section
open Go.RowKit

theorem set_two (x : List Int) (t : Int) (hx : x.length = 20) : ((x ++ List.replicate 2 0).set 20 t).set 21 t = x ++ [t, t] := by
  rw [List.set_append_right _ _ (by omega), List.set_append_right _ _ (by omega), hx]
  rfl
set_option maxRecDepth 20000 in
set_option maxHeartbeats 1000000 in
theorem isHeight_any (h : Int) (w : World) :
    Calls Tryd.prog 44 #[.int .i64 h] w fun e w' => e = .returned (.bool (decide (1 ≤ h ∧ h ≤ 5))) ∧ w' = w := by
  by_cases h1 : h ≥ 1
  · by_cases h2 : h ≤ 5
    · have h3 : decide (1 ≤ h ∧ h ≤ 5) = true := by simp; omega
      have h1' : decide (h ≥ 1) = true := by simp; omega
      have h2' : decide (h ≤ 5) = true := by simp; omega
      rw [h3]
      go_enter Tryd.func44, Tryd.ntmps44
      go_wp2
      go_ret
      exact ⟨rfl, rfl⟩
    · have h3 : decide (1 ≤ h ∧ h ≤ 5) = false := by simp; omega
      have h1' : decide (h ≥ 1) = true := by simp; omega
      have h2' : decide (h ≤ 5) = false := by simp; omega
      rw [h3]
      go_enter Tryd.func44, Tryd.ntmps44
      go_wp2
      go_ret
      exact ⟨rfl, rfl⟩
  · have h3 : decide (1 ≤ h ∧ h ≤ 5) = false := by simp; omega
    have h1' : decide (h ≥ 1) = false := by simp; omega
    rw [h3]
    go_enter Tryd.func44, Tryd.ntmps44
    go_wp2
    go_ret
    exact ⟨rfl, rfl⟩
set_option maxRecDepth 20000 in
set_option maxHeartbeats 1000000 in
theorem leaves_any (h : Nat) (w : World) (h1 : 1 ≤ h) (h5 : h ≤ 5) :
    Calls Tryd.prog 49 #[.int .i64 (h : Int)] w fun e w' => e = .returned (.int .i64 ((2 ^ h : Nat) : Int)) ∧ w' = w := by
  rcases (by omega : h = 1 ∨ h = 2 ∨ h = 3 ∨ h = 4 ∨ h = 5) with rfl | rfl | rfl | rfl | rfl
  all_goals
    go_enter Tryd.func49, Tryd.ntmps49
    go_wp2
    go_ret
    exact ⟨rfl, rfl⟩
set_option maxRecDepth 20000 in
set_option maxHeartbeats 1000000 in
theorem fourOf_any (n : Int) (w : World) :
    Calls Tryd.prog 67 #[.int .i64 n] w fun e w' => e = .returned (.agg (v8 (n4 n))) ∧ Below w.heap.size w w' := by
  have hi : (Tryd.prog.info? 66).map (·.size) = some (v8 (n4 n)).size := by rw [v8_size]; kernel_rfl
  go_enter Tryd.func67, Tryd.ntmps67
  go_wp2_with (refine store_row0 66 (.tmp 2) (.tmp 14) (by rfl) (by rfl) (by rfl) w.heap.size (v8 (n4 n)) (by rfl) (by rfl) 66 (v8 (List.replicate 4 0)) (Row.new w 66 _) hi (by simp [v8_size, n4_len]) (v8_one _) ?_)
  exact bodyPost_ret (results_cell_row Tryd.results67 _ _ w.heap.size 66 (v8 (n4 n)) (0, 0) _ rfl ((Row.new w 66 (v8 (List.replicate 4 0))).setRow _) Tryd.underlying66 rfl hi) rfl ⟨rfl, below_setRow ((Below.refl _ _).alloc (Nat.le_refl _) _) (Nat.le_refl _) _⟩
set_option maxRecDepth 20000 in
set_option maxHeartbeats 1000000 in
theorem headOf_any (nm : List Int) (r tag : Int) (w : World) (hn : nm.length = 16) :
    Calls Tryd.prog 72 #[.agg (v8 nm), .int .i64 r, .int .u8 tag] w fun e w' => e = .returned (.agg (v8 (nm ++ n4 r ++ [tag, tag]))) ∧ Below w.heap.size w w' := by
  have hl : (nm ++ n4 r ++ [tag, tag]).length = 22 := by rw [List.length_append, List.length_append, hn, n4_len]; rfl
  have hi : (Tryd.prog.info? 95).map (·.size) = some (v8 (nm ++ n4 r ++ [tag, tag])).size := by rw [v8_size, hl]; kernel_rfl
  have hi4 : (Tryd.prog.info? 66).map (·.size) = some (v8 (n4 r)).size := by rw [v8_size]; kernel_rfl
  have h20 : (nm ++ n4 r).length = 20 := by rw [List.length_append, hn, n4_len]
  go_enter Tryd.func72, Tryd.ntmps72
  go_upto_region 2 with fail
  have r0 : Row (World.alloc (World.alloc (World.alloc w (.cells (v8 nm) 22)) (.cells (v8 (List.replicate 22 0)) 95)) (.cells (v8 (List.replicate 22 0)) 95)) w.heap.size 22 (v8 nm) := ((Row.new _ _ _).alloc _).alloc _
  have r1 : Row (World.alloc (World.alloc (World.alloc w (.cells (v8 nm) 22)) (.cells (v8 (List.replicate 22 0)) 95)) (.cells (v8 (List.replicate 22 0)) 95)) (w.heap.size + 1) 95 (v8 (List.replicate 22 0)) := (Row.newAt _ _ _ _ (by simp)).alloc _
  have r2 : Row (World.alloc (World.alloc (World.alloc w (.cells (v8 nm) 22)) (.cells (v8 (List.replicate 22 0)) 95)) (.cells (v8 (List.replicate 22 0)) 95)) (w.heap.size + 2) 95 (v8 (List.replicate 22 0)) := Row.newAt _ _ _ _ (by simp)
  have b1 : Below w.heap.size w (World.alloc (World.alloc (World.alloc w (.cells (v8 nm) 22)) (.cells (v8 (List.replicate 22 0)) 95)) (.cells (v8 (List.replicate 22 0)) 95)) := (((Below.refl _ _).alloc (Nat.le_refl _) _).alloc (by simp) _).alloc (by simp; omega) _
  change Code.wp _ _ _ _ ((World.alloc (World.alloc (World.alloc w (.cells (v8 nm) 22)) (.cells (v8 (List.replicate 22 0)) 95)) (.cells (v8 (List.replicate 22 0)) 95)))
  generalize (World.alloc (World.alloc (World.alloc w (.cells (v8 nm) 22)) (.cells (v8 (List.replicate 22 0)) 95)) (.cells (v8 (List.replicate 22 0)) 95)) = w1 at r0 r1 r2 b1 ⊢
  refine wp_region_quiet_tail 2 (by kernel_rfl) (by kernel_rfl) ?_
  simp only [List.take_succ_cons, List.take_zero, List.drop_succ_cons, List.drop_zero]
  repeat (go_big_quiet_step (fail))
  refine wpQuiet_nil ?_
  rintro _ ⟨nq, rfl⟩
  refine copy8 (w := w1.drewN nq) (.tmp 9) (.tmp 10) 28 28 (by rfl) (by rfl) 5 Tryd.underlying28 (by kernel_rfl) (some ⟨w.heap.size + 2, 0, none⟩) (some ⟨w.heap.size, 0, none⟩) 22 22 16 16 (by rfl) (by rfl) (w.heap.size + 2) (0) (List.replicate 22 0) 95 (r2.drewN nq) nm (by rw [hn]; rfl) (fun _ => rfl) ((r0.drewN nq).bytes) (by simp; omega) ?_
  simp only [Act.put, List.setIfInBounds_toArray, List.set_cons_succ, List.set_cons_zero]
  rw [spl_zero, hn]
  have q1 := (r1.drewN nq).setRowOther (g := w.heap.size + 2) (by omega) (v8 (nm ++ List.replicate (22 - 16) 0))
  have q2 := (r2.drewN nq).setRow (v8 (nm ++ List.replicate (22 - 16) 0))
  have qb := below_setRow (g := w.heap.size + 2) (below_drewN b1 nq) (by omega) (v8 (nm ++ List.replicate (22 - 16) 0))
  generalize (w1.drewN nq).setRow (w.heap.size + 2) (v8 (nm ++ List.replicate (22 - 16) 0)) = w2 at q1 q2 qb ⊢
  clear r0 r1 r2 b1
  go_upto_region 4 with (first | (go_at_call 67; (with_reducible refine Calls.mono (fourOf_any r _) ?_); rintro e w3 ⟨rfl, hb3⟩; have s1 := q1.below hb3 q1.lt; have s2 := q2.below hb3 q2.lt; have sb := qb.trans (hb3.mono qb.size); have hs2 := s2.lt) | (refine store_row0 66 (.tmp 8) (.tmp 13) (by rfl) (by rfl) (by rfl) w3.heap.size (v8 (n4 r)) (by rfl) (by rfl) 66 (v8 (List.replicate 4 0)) (Row.new w3 66 _) hi4 (by simp [v8_size, n4_len]) (v8_one _) ?_))
  have t1 := (s1.alloc (.cells (v8 (List.replicate 4 0)) 66)).setRowOther (g := w3.heap.size) (by omega) (v8 (n4 r))
  have t2 := (s2.alloc (.cells (v8 (List.replicate 4 0)) 66)).setRowOther (g := w3.heap.size) (by omega) (v8 (n4 r))
  have t4 := (Row.new w3 66 (v8 (List.replicate 4 0))).setRow (v8 (n4 r))
  have tb : Below w.heap.size w ((w3.alloc (.cells (v8 (List.replicate 4 0)) 66)).setRow w3.heap.size (v8 (n4 r))) := below_setRow (sb.alloc sb.size _) sb.size _
  obtain ⟨g4, hg4⟩ : ∃ g4, g4 = w3.heap.size := ⟨_, rfl⟩
  have hg4' : w.heap.size + 2 < g4 := by omega
  change Code.wp _ _ _ _ ((w3.alloc (.cells (v8 (List.replicate 4 0)) 66)).setRow w3.heap.size (v8 (n4 r)))
  rw [← hg4] at t1 t2 t4 tb ⊢
  generalize (w3.alloc (.cells (v8 (List.replicate 4 0)) 66)).setRow g4 (v8 (n4 r)) = w4 at t1 t2 t4 tb ⊢
  clear q1 q2 qb s1 s2 sb hb3 hg4 hs2
  refine wp_region_quiet_tail 2 (by kernel_rfl) (by kernel_rfl) ?_
  simp only [List.take_succ_cons, List.take_zero, List.drop_succ_cons, List.drop_zero]
  repeat (go_big_quiet_step (fail))
  refine wpQuiet_nil ?_
  rintro _ ⟨nq, rfl⟩
  refine copy8 (w := w4.drewN nq) (.tmp 14) (.tmp 15) 28 28 (by rfl) (by rfl) 5 Tryd.underlying28 (by kernel_rfl) (some ⟨w.heap.size + 2, 16, none⟩) (some ⟨g4, 0, none⟩) 6 6 4 4 (by rfl) (by rfl) (w.heap.size + 2) (16) (nm ++ List.replicate (22 - 16) 0) 95 (t2.drewN nq) (n4 r) rfl (fun _ => rfl) ((t4.drewN nq).bytes) (by simp [hn, n4_len]) ?_
  simp only [Act.put, List.setIfInBounds_toArray, List.set_cons_succ, List.set_cons_zero]
  have hsp : spl (nm ++ List.replicate (22 - 16) 0) 16 (n4 r) = nm ++ n4 r ++ List.replicate 2 0 := by
    rw [← hn, spl_mid]; simp [hn, n4_len]
  rw [hsp]
  have u1 := (t1.drewN nq).setRowOther (g := w.heap.size + 2) (by omega) (v8 (nm ++ n4 r ++ List.replicate 2 0))
  have u2 := (t2.drewN nq).setRow (v8 (nm ++ n4 r ++ List.replicate 2 0))
  have ub := below_setRow (g := w.heap.size + 2) (below_drewN tb nq) (by omega) (v8 (nm ++ n4 r ++ List.replicate 2 0))
  generalize (w4.drewN nq).setRow (w.heap.size + 2) (v8 (nm ++ n4 r ++ List.replicate 2 0)) = w5 at u1 u2 ub ⊢
  clear t1 t2 t4 tb hsp
  have hL22 : (nm ++ n4 r ++ List.replicate 2 0).length = 22 := by rw [List.length_append, h20]; rfl
  have c0 : w5.cell? ⟨w.heap.size + 2, 20, none⟩ = some _ := u2.cell8 (by omega)
  have f0 : w5.frozen? ⟨w.heap.size + 2, 20, none⟩ = false := u2.frozen
  have p2 := u2.set8 20 tag
  have c1 : (w5.setCell ⟨w.heap.size + 2, 20, none⟩ (.int .u8 tag)).cell? ⟨w.heap.size + 2, 21, none⟩ = some _ := p2.cell8 (by rw [List.length_set]; omega)
  have f1 : (w5.setCell ⟨w.heap.size + 2, 20, none⟩ (.int .u8 tag)).frozen? ⟨w.heap.size + 2, 21, none⟩ = false := p2.frozen
  have v2 := p2.set8 21 tag
  have hq := set_two (nm ++ n4 r) tag h20
  rw [hq] at v2
  have v1 := (u1.setOther (a := ⟨w.heap.size + 2, 20, none⟩) (by show w.heap.size + 1 ≠ w.heap.size + 2; omega) (.int .u8 tag)).setOther (a := ⟨w.heap.size + 2, 21, none⟩) (by show w.heap.size + 1 ≠ w.heap.size + 2; omega) (.int .u8 tag)
  have vb := (ub.setCell (p := ⟨w.heap.size + 2, 20, none⟩) (by show w.heap.size ≤ w.heap.size + 2; omega) (.int .u8 tag)).setCell (p := ⟨w.heap.size + 2, 21, none⟩) (by show w.heap.size ≤ w.heap.size + 2; omega) (.int .u8 tag)
  go_wp2_with (first | (refine wpList_load_row (by rfl) 95 (.tmp 7) (by rfl) (w.heap.size + 2) (by rfl) 95 (v8 (nm ++ n4 r ++ [tag, tag])) (0, 0) _ v2 Tryd.underlying95 rfl hi ?_) | (refine store_row0 95 (.tmp 6) (.tmp 21) (by rfl) (by rfl) (by rfl) (w.heap.size + 1) (v8 (nm ++ n4 r ++ [tag, tag])) (by rfl) (by rfl) 95 _ v1 hi (by rw [v8_size, v8_size, hl]; simp) (v8_one _) ?_))
  exact bodyPost_ret (results_cell_row Tryd.results72 _ _ (w.heap.size + 1) 95 (v8 (nm ++ n4 r ++ [tag, tag])) (0, 0) _ rfl (v1.setRow _) Tryd.underlying95 rfl hi) rfl ⟨rfl, below_setRow vb (by omega) _⟩
end

end Go.Proofs.YtoebnkepeledmaaDoor
