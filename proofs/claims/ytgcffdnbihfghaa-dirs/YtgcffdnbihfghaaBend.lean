/- bend, of the laws: bytes with some turned, cut off, or more behind: four rows of bytes. No old memory turns. -/
import Derived.Test.YtgcffdnbihfghaaKnown
import Derived.Test.YtgcffdnbihfghaaClaims9
namespace Go.Proofs.Ytgcffdnbihfghaa
open Go Go.RowKit
theorem Own8.set {w : World} {B g n cap k : Nat} {e : TypeId} {l : List Int} (h : Own8 w B e (.slice (some ⟨g, 0, none⟩) n cap) l) (v : Int) : Own8 (w.setCell ⟨g, k, none⟩ (.int .u8 v)) B e (.slice (some ⟨g, 0, none⟩) n cap) (l.set k v) := by
  obtain ⟨hl, h⟩ := h
  rcases h with ⟨h, _⟩ | ⟨g', cap', cur, hv, hg, hh, hn, hc, hs, ht⟩
  · injection h with h1; cases h1
  · injection hv with h1 h2 h3
    injection h1 with h1
    injection h1 with h1
    subst h1; subst h3
    refine ⟨by simp [hl], .inr ⟨g, cap, cur.setIfInBounds k (.int .u8 v), by rw [h2]; simp, hg, heap_setCell_same w g k cur e _ hh, by simpa using hn, hc, by simpa using hs, ?_⟩⟩
    simp only [Array.toList_setIfInBounds, List.length_set, List.map_set]
    rw [List.take_set, ht]
theorem own8_take {w : World} {sp : Option Addr} {n cap : Nat} {B : Nat} {l : List Int} (h : Own8 w B 5 (.slice sp n cap) l) : n = l.length ∧ n ≤ cap := by
  rcases h.row with ⟨_, rfl, rfl, rfl⟩ | ⟨g, cur, _, _, h1, h2⟩
  · exact ⟨rfl, Nat.le_refl _⟩
  · exact ⟨h1, by omega⟩
theorem goes (j na ns nb : Nat) : (j < na ∧ j < ns ∧ j < 3 ∧ 0 < nb) ∨ ¬ j < na ∨ (j < na ∧ ¬ j < ns) ∨ (j < na ∧ j < ns ∧ ¬ j < 3) ∨ (j < na ∧ j < ns ∧ j < 3 ∧ nb = 0) := by omega
theorem By.take {l : List Int} (h : By l) (k : Nat) : By (l.take k) := fun x hx => h x (List.mem_of_mem_take hx)
theorem By.append {a b : List Int} (ha : By a) (hb : By b) : By (a ++ b) := fun x hx => by
  rcases List.mem_append.1 hx with h | h
  · exact ha x h
  · exact hb x h
theorem by_set {l : List Int} (h : By l) (k : Nat) (x : Int) : By (l.set k (x % 256)) := fun y hy => by
  rcases List.mem_or_eq_of_mem_set hy with h1 | rfl
  · exact h y h1
  · omega
/-- The slot's four rows. -/
structure Bent (w : World) (pr pb : Option Addr) (nr cr nb cb : Nat) (raw b : List Int) (e : Ending) (w' : World) (G : Nat) (X Y : List Int) (px py : Option Addr) (cx cy : Nat) : Prop where
  said : e = .returned (.slice (some ⟨G, 0, none⟩) 4 4)
  row : Row w' G 27 #[.slice px X.length cx, .slice py Y.length cy, .slice pr nr cr, .slice pb nb cb]
  bx : Bytes w' px X
  yx : By X
  lx : X.length ≤ b.length
  kx : X.length ≤ cx
  bY : Bytes w' py Y
  yy : By Y
  ly : Y.length ≤ b.length + raw.length
  ky : Y.length ≤ cy
  new : w.heap.size ≤ G
  below : Below w.heap.size w w'

set_option maxRecDepth 20000 in
set_option maxHeartbeats 1000000 in
theorem bend_any (b al bl raw : List Int) (pb pa ps pr : Option Addr) (nb na ns nr cb ca cs cr : Nat) (cut : Int) (w : World)
    (hb : Bytes w pb b) (hnb : b.length = nb) (hcb : pb = none → cb = 0 ∧ nb = 0) (yb : By b) (hlb : nb ≤ 1000000)
    (ha : Ints w pa al) (hna : al.length = na) (hma : na ≤ 9223372036854775807) (hs : Bytes w ps bl) (hns : bl.length = ns) (ys : By bl) (hms : ns ≤ 9223372036854775807)
    (hr : Bytes w pr raw) (hnr : raw.length = nr) (hcr : pr = none → cr = 0 ∧ nr = 0) (yr : By raw) (hlr : nr ≤ 1000000) :
    Calls Try.prog 13 #[.slice pb nb cb, .slice pa na ca, .slice ps ns cs, .int .i64 cut, .slice pr nr cr] w fun e w' => ∃ G X Y px py cx cy, Bent w pr pb nr cr nb cb raw b e w' G X Y px py cx cy := by
  have hB := Nat.le_refl w.heap.size
  have o0 : Own8 (w.alloc (.cells #[] 5)) w.heap.size 5 (.slice (some ⟨w.heap.size, 0, none⟩) 0 0) [] := own8_lit w _ hB
  have b0 : Below w.heap.size w (w.alloc (.cells #[] 5)) := (Below.refl _ _).alloc hB _
  go_enter Try.func13, Try.ntmps13
  go_wp2_with (at_builtin; (refine append8g (.tmp 13) (.tmp 14) 27 5 (by rfl) (by rfl) w.heap.size Try.underlying27 info5 (.slice (some ⟨w.heap.size, 0, none⟩) 0 0) [] (by rfl) ?ho pb nb cb b (by rfl) hnb ?hnil ?hby ?hlen ?hB ?_; (case ho => exact o0); (case hnil => exact hcb); (case hby => exact hb.below b0); (case hlen => simp; omega); (case hB => exact b0.size); rw [List.nil_append, hnb]; intro sp1 cap1 w1 o1 b1 g1))
  have b2 := b0.trans b1
  clear b0 b1 g1 o0
  go_loopw [12] (fun i wr => ∃ (j : Nat) (X : List Int), i = .int .i64 j ∧ j ≤ 3 ∧ Own8 wr w.heap.size 5 (.slice sp1 nb cap1) X ∧ X.length = nb ∧ By X ∧ Below w.heap.size w wr) (fun i _ => 3 - (intOf i).toNat)
  case atStart => exact ⟨0, b, rfl, by omega, o1, hnb, yb, b2⟩
  case round =>
    obtain ⟨j, X, rfl, hj, oX, lX, yX, bX⟩ := hrel
    have hgo := goes j na ns nb
    obtain h | h | h | h | h := hgo
    · obtain ⟨h1, h2, h3, h4⟩ := h
      obtain ⟨ba, oa, rfl, hca⟩ := ha (by omega)
      obtain ⟨bs', os, rfl, hcs⟩ := hs (by omega)
      rcases oX.row with ⟨_, _, e0, _⟩ | ⟨g, cur, rfl, rX, hn0, lc⟩
      · rw [e0] at lX; simp at lX; omega
      have lc' : nb ≤ cap1 := by omega
      clear hn0
      have ca := hca j (by omega)
      have hba := block_lt_of_cell ca
      have cs' := hcs j (by omega)
      have hbs := block_lt_of_cell cs'
      simp only at hba hbs
      have w1a : ∀ k, (wr.drewN k).cell? ⟨ba, oa + j, none⟩ = some (.int .i64 (gi al j)) := fun k => by rw [(below_drewN bX k).cell (p := ⟨ba, oa + j, none⟩) hba]; exact ca
      have w1s : ∀ k, (wr.drewN k).cell? ⟨bs', os + j, none⟩ = some (.int .u8 (gi bl j)) := fun k => by rw [(below_drewN bX k).cell (p := ⟨bs', os + j, none⟩) hbs]; exact cs'
      have ys' := gi_by ys j (by omega)
      have hw := fun w1 => within_any (gi al j) (nb : Int) w1 (by omega) (by omega)
      have m0 := Int.emod_nonneg (gi al j) (show (nb : Int) ≠ 0 by omega)
      have m1 := Int.emod_lt_of_pos (gi al j) (show (0 : Int) < nb by omega)
      obtain ⟨k, hk⟩ : ∃ k : Nat, gi al j % (nb : Int) = k := ⟨_, (Int.toNat_of_nonneg m0).symm⟩
      rw [hk] at hw m0 m1
      have xk := gi_by yX k (by omega)
      obtain ⟨g', o', e, hcX⟩ := oX.bytes (by omega)
      cases e
      have w1x : ∀ q, (wr.drewN q).cell? ⟨g, k, none⟩ = some (.int .u8 (gi X k)) := fun q => by have := hcX k (by omega); rw [Nat.zero_add] at this; exact this
      have rX2 := fun q => (rX.drewN q).frozen (j := k)
      have oX3 := fun q => (oX.drewN q).set (k := k) ((gi X k + gi bl j) % 256)
      have hgB : w.heap.size ≤ g := by
        rcases oX.2 with ⟨h, _⟩ | ⟨g2, c2, cu, hv, hg, _⟩
        · injection h with h; cases h
        · injection hv with hv; injection hv with hv; injection hv with hv; omega
      have lX2 : ∀ x, (X.set k x).length = nb := fun x => by simpa using lX
      have yX2 := fun x => by_set yX k x
      clear hk ca cs' hca hcs hcX hb hnb hcb yb hr hnr hcr yr hlr hB o1 b2 ha hs hna hns yX lX oX rX lc ys
      generalize gi al j = aj at *
      generalize gi X k = xv at *
      generalize gi bl j = bv at *
      go_upto_region 5 with fail
      refine wp_region_quiet_tail 15 (by kernel_rfl) (by kernel_rfl) ?_
      simp only [List.take_succ_cons, List.take_zero, List.drop_succ_cons, List.drop_zero]
      iterate 7 (go_big_quiet_step (fail))
      go_big_quiet_step ((go_at_call 27; with_reducible exact (hw _).mono (fun e w' ⟨he, hw⟩ => ⟨he, _, hw⟩)))
      repeat (go_big_quiet_step (fail))
      refine wpQuiet_nil ?_
      rintro _ ⟨nq, rfl⟩
      have c1 := w1x nq
      have f1 := rX2 nq
      have oX2 := oX3 nq
      have bX2 := (below_drewN bX nq).setCell (p := ⟨g, k, none⟩) hgB (.int .u8 ((xv + bv) % 256))
      go_wp2
      go_roundw
      case rel => exact ⟨j + 1, X.set k ((xv + bv) % 256), by go_num, by omega, oX2, lX2 _, yX2 _, bX2⟩
      case measure => simp [intOf]; omega
    rotate_right
    · obtain ⟨h1, h2, h3, h4⟩ := h
      obtain rfl : X = [] := List.eq_nil_of_length_eq_zero (by omega)
      subst h4
      clear o1 b2 ha hs hna hns ys hb hcb
      by_cases hc : cut.tmod 2 = 1
      · have hcb : (cut.tmod 2 == 1) = true := by simpa using hc
        obtain ⟨q, hq⟩ : ∃ q, wrap64 (cut.tdiv 2) = q := ⟨_, rfl⟩
        have hw := fun w1 => within_any q 1 w1 (by omega) (by omega)
        rw [Int.emod_one] at hw
        clear hc
        rcases oX.row with ⟨rfl, rfl, _, _⟩ | ⟨g, cur, rfl, hn2, hn0, hn1⟩
        · skip
          have hs6 := oX.below ((Below.refl wr.heap.size wr).alloc (Nat.le_refl _) (.cells #[] 5)) (Nat.le_refl _)
          have n6 := own_nil0 oX
          have z0 : Own8 (wr.alloc (.cells #[] 5)) wr.heap.size 5 (.slice (some ⟨wr.heap.size, 0, none⟩) 0 0) [] := own8_lit wr _ (Nat.le_refl _)
          have zb : Below wr.heap.size wr (wr.alloc (.cells #[] 5)) := (Below.refl _ _).alloc (Nat.le_refl _) _
          have lx2 : (([] : List Int)).length = 0 := rfl
          have ly2 : ((([] : List Int)) ++ raw).length = nr := by rw [List.length_append, lx2, hnr]; omega
          go_upto_region 8 with (go_at_call 27; (with_reducible refine Calls.mono (hw _) ?_); rintro e w2 ⟨rfl, hw2⟩; obtain rfl := hw2.symm; clear hw2)
          go_wp2_with (first | (at_builtin; (refine append8g (.tmp 65) (.tmp 66) 27 5 (by rfl) (by rfl) wr.heap.size Try.underlying27 info5 (.slice (some ⟨wr.heap.size, 0, none⟩) 0 0) [] (by rfl) ?ho none 0 0 (([] : List Int)) (by rfl) lx2 ?hnil ?hby ?hlen ?hB ?_; (case ho => exact z0); (case hnil => first | exact n6 | exact (fun _ => ⟨rfl, rfl⟩) | exact (fun h => by cases h)); (case hby => exact hs6.bytes); (case hlen => simp; try omega); (case hB => exact zb.size); rw [List.nil_append, lx2]; intro sp7 cap7 w7 o7 b7 g7; have hb7 := bX.trans ((zb.trans b7).mono bX.size))) | (at_builtin; (refine append8g (.tmp 67) (.tmp 68) 27 5 (by rfl) (by rfl) wr.heap.size Try.underlying27 info5 (.slice sp7 0 cap7) (([] : List Int)) (by rfl) ?ho pr nr cr raw (by rfl) hnr ?hnil ?hby ?hlen ?hB ?_; (case ho => exact o7); (case hnil => exact hcr); (case hby => exact hr.below hb7); (case hlen => omega); (case hB => exact (zb.trans b7).size); rw [ly2]; intro sp8 cap8 w8 o8 b8 g8)))
          have xb := zb.trans (b7.trans b8)
          have xr : Own8 w8 w.heap.size 5 (.slice none 0 0) (([] : List Int)) := oX.below xb (Nat.le_refl _)
          have xl := own8_take xr
          have xl8 := own8_take o8
          have hbw := bX.trans (xb.mono bX.size)
          go_ret
          refine ⟨w8.heap.size, ([] : List Int), (([] : List Int)) ++ raw, none, sp8, 0, cap8, ⟨rfl, ?_, xr.bytes.below ((Below.refl _ _).alloc (Nat.le_refl _) _), (fun x hx => by simp at hx), by omega, by omega, o8.bytes.below ((Below.refl _ _).alloc (Nat.le_refl _) _), By.append (fun x hx => by simp at hx) yr, by rw [ly2]; omega, by omega, hbw.size, hbw.alloc hbw.size _⟩⟩
          rw [ly2, lx2]
          exact Row.new w8 27 _
        · clear hn0 hn1 hn2
          have hs6 := oX.below ((Below.refl wr.heap.size wr).alloc (Nat.le_refl _) (.cells #[] 5)) (Nat.le_refl _)
          have n6 := own_nil0 oX
          have z0 : Own8 (wr.alloc (.cells #[] 5)) wr.heap.size 5 (.slice (some ⟨wr.heap.size, 0, none⟩) 0 0) [] := own8_lit wr _ (Nat.le_refl _)
          have zb : Below wr.heap.size wr (wr.alloc (.cells #[] 5)) := (Below.refl _ _).alloc (Nat.le_refl _) _
          have lx2 : (([] : List Int)).length = 0 := rfl
          have ly2 : ((([] : List Int)) ++ raw).length = nr := by rw [List.length_append, lx2, hnr]; omega
          go_upto_region 8 with (go_at_call 27; (with_reducible refine Calls.mono (hw _) ?_); rintro e w2 ⟨rfl, hw2⟩; obtain rfl := hw2.symm; clear hw2)
          go_wp2_with (first | (at_builtin; (refine append8g (.tmp 65) (.tmp 66) 27 5 (by rfl) (by rfl) wr.heap.size Try.underlying27 info5 (.slice (some ⟨wr.heap.size, 0, none⟩) 0 0) [] (by rfl) ?ho (some ⟨g, 0, none⟩) 0 cap1 (([] : List Int)) (by rfl) lx2 ?hnil ?hby ?hlen ?hB ?_; (case ho => exact z0); (case hnil => first | exact n6 | exact (fun _ => ⟨rfl, rfl⟩) | exact (fun h => by cases h)); (case hby => exact hs6.bytes); (case hlen => simp; try omega); (case hB => exact zb.size); rw [List.nil_append, lx2]; intro sp7 cap7 w7 o7 b7 g7; have hb7 := bX.trans ((zb.trans b7).mono bX.size))) | (at_builtin; (refine append8g (.tmp 67) (.tmp 68) 27 5 (by rfl) (by rfl) wr.heap.size Try.underlying27 info5 (.slice sp7 0 cap7) (([] : List Int)) (by rfl) ?ho pr nr cr raw (by rfl) hnr ?hnil ?hby ?hlen ?hB ?_; (case ho => exact o7); (case hnil => exact hcr); (case hby => exact hr.below hb7); (case hlen => omega); (case hB => exact (zb.trans b7).size); rw [ly2]; intro sp8 cap8 w8 o8 b8 g8)))
          have xb := zb.trans (b7.trans b8)
          have xr : Own8 w8 w.heap.size 5 (.slice (some ⟨g, 0, none⟩) 0 cap1) (([] : List Int)) := oX.below xb (Nat.le_refl _)
          have xl := own8_take xr
          have xl8 := own8_take o8
          have hbw := bX.trans (xb.mono bX.size)
          go_ret
          refine ⟨w8.heap.size, ([] : List Int), (([] : List Int)) ++ raw, (some ⟨g, 0, none⟩), sp8, cap1, cap8, ⟨rfl, ?_, xr.bytes.below ((Below.refl _ _).alloc (Nat.le_refl _) _), (fun x hx => by simp at hx), by omega, by omega, o8.bytes.below ((Below.refl _ _).alloc (Nat.le_refl _) _), By.append (fun x hx => by simp at hx) yr, by rw [ly2]; omega, by omega, hbw.size, hbw.alloc hbw.size _⟩⟩
          rw [ly2, lx2]
          exact Row.new w8 27 _
      · have hcb : (cut.tmod 2 == 1) = false := by simpa using hc
        have hs6 := oX.below ((Below.refl wr.heap.size wr).alloc (Nat.le_refl _) (.cells #[] 5)) (Nat.le_refl _)
        have n6 := own_nil0 oX
        have z0 : Own8 (wr.alloc (.cells #[] 5)) wr.heap.size 5 (.slice (some ⟨wr.heap.size, 0, none⟩) 0 0) [] := own8_lit wr _ (Nat.le_refl _)
        have zb : Below wr.heap.size wr (wr.alloc (.cells #[] 5)) := (Below.refl _ _).alloc (Nat.le_refl _) _
        have lx2 : (([] : List Int)).length = 0 := rfl
        have ly2 : ((([] : List Int)) ++ raw).length = nr := by rw [List.length_append, lx2, hnr]; omega
        go_upto_region 8 with fail
        go_wp2_with (first | (at_builtin; (refine append8g (.tmp 65) (.tmp 66) 27 5 (by rfl) (by rfl) wr.heap.size Try.underlying27 info5 (.slice (some ⟨wr.heap.size, 0, none⟩) 0 0) [] (by rfl) ?ho sp1 0 cap1 (([] : List Int)) (by rfl) lx2 ?hnil ?hby ?hlen ?hB ?_; (case ho => exact z0); (case hnil => first | exact n6 | exact (fun _ => ⟨rfl, rfl⟩) | exact (fun h => by cases h)); (case hby => exact hs6.bytes); (case hlen => simp; try omega); (case hB => exact zb.size); rw [List.nil_append, lx2]; intro sp7 cap7 w7 o7 b7 g7; have hb7 := bX.trans ((zb.trans b7).mono bX.size))) | (at_builtin; (refine append8g (.tmp 67) (.tmp 68) 27 5 (by rfl) (by rfl) wr.heap.size Try.underlying27 info5 (.slice sp7 0 cap7) (([] : List Int)) (by rfl) ?ho pr nr cr raw (by rfl) hnr ?hnil ?hby ?hlen ?hB ?_; (case ho => exact o7); (case hnil => exact hcr); (case hby => exact hr.below hb7); (case hlen => omega); (case hB => exact (zb.trans b7).size); rw [ly2]; intro sp8 cap8 w8 o8 b8 g8)))
        have xb := zb.trans (b7.trans b8)
        have xr : Own8 w8 w.heap.size 5 (.slice sp1 0 cap1) (([] : List Int)) := oX.below xb (Nat.le_refl _)
        have xl := own8_take xr
        have xl8 := own8_take o8
        have hbw := bX.trans (xb.mono bX.size)
        go_ret
        refine ⟨w8.heap.size, ([] : List Int), (([] : List Int)) ++ raw, sp1, sp8, cap1, cap8, ⟨rfl, ?_, xr.bytes.below ((Below.refl _ _).alloc (Nat.le_refl _) _), (fun x hx => by simp at hx), by omega, by omega, o8.bytes.below ((Below.refl _ _).alloc (Nat.le_refl _) _), By.append (fun x hx => by simp at hx) yr, by rw [ly2]; omega, by omega, hbw.size, hbw.alloc hbw.size _⟩⟩
        rw [ly2, lx2]
        exact Row.new w8 27 _
    all_goals
      clear o1 b2 ha hs hna hns ys hb hcb
      by_cases hc : cut.tmod 2 = 1
      · have hcb : (cut.tmod 2 == 1) = true := by simpa using hc
        obtain ⟨q, hq⟩ : ∃ q, wrap64 (cut.tdiv 2) = q := ⟨_, rfl⟩
        have hw := fun w1 => within_any q ((nb : Int) + 1) w1 (by omega) (by omega)
        have m0 := Int.emod_nonneg q (show ((nb : Int) + 1) ≠ 0 by omega)
        have m1 := Int.emod_lt_of_pos q (show (0 : Int) < (nb : Int) + 1 by omega)
        obtain ⟨k, hk⟩ : ∃ k : Nat, q % ((nb : Int) + 1) = k := ⟨_, (Int.toNat_of_nonneg m0).symm⟩
        rw [hk] at hw m0 m1
        clear hk hc
        have hkn : k ≤ nb := by omega
        have oK := oX.front k (by omega)
        have yK := yX.take k
        have lK : (X.take k).length = k := by simp; omega
        have hkc : k ≤ cap1 := by have := own8_take oX; omega
        rcases oX.row with ⟨rfl, rfl, rfl, e0⟩ | ⟨g, cur, rfl, hn2, hn0, hn1⟩
        · obtain rfl : k = 0 := by omega
          subst e0
          clear oK yK lK hw m0 m1
          have hw : ∀ w1, Calls Try.prog 27 #[.int .i64 q, .int .i64 1] w1 fun e w' => e = .returned (.int .i64 0) ∧ w' = w1 := fun w1 => by have := within_any q 1 w1 (by decide) (by decide); rwa [Int.emod_one] at this
          have hs6 := oX.below ((Below.refl wr.heap.size wr).alloc (Nat.le_refl _) (.cells #[] 5)) (Nat.le_refl _)
          have n6 := own_nil0 oX
          have z0 : Own8 (wr.alloc (.cells #[] 5)) wr.heap.size 5 (.slice (some ⟨wr.heap.size, 0, none⟩) 0 0) [] := own8_lit wr _ (Nat.le_refl _)
          have zb : Below wr.heap.size wr (wr.alloc (.cells #[] 5)) := (Below.refl _ _).alloc (Nat.le_refl _) _
          have lx2 : (([] : List Int)).length = 0 := rfl
          have ly2 : ((([] : List Int)) ++ raw).length = nr := by rw [List.length_append, lx2, hnr]; omega
          go_upto_region 8 with (go_at_call 27; (with_reducible refine Calls.mono (hw _) ?_); rintro e w2 ⟨rfl, hw2⟩; obtain rfl := hw2.symm; clear hw2)
          go_wp2_with (first | (at_builtin; (refine append8g (.tmp 65) (.tmp 66) 27 5 (by rfl) (by rfl) wr.heap.size Try.underlying27 info5 (.slice (some ⟨wr.heap.size, 0, none⟩) 0 0) [] (by rfl) ?ho none 0 0 (([] : List Int)) (by rfl) lx2 ?hnil ?hby ?hlen ?hB ?_; (case ho => exact z0); (case hnil => first | exact n6 | exact (fun _ => ⟨rfl, rfl⟩) | exact (fun h => by cases h)); (case hby => exact hs6.bytes); (case hlen => simp; try omega); (case hB => exact zb.size); rw [List.nil_append, lx2]; intro sp7 cap7 w7 o7 b7 g7; have hb7 := bX.trans ((zb.trans b7).mono bX.size))) | (at_builtin; (refine append8g (.tmp 67) (.tmp 68) 27 5 (by rfl) (by rfl) wr.heap.size Try.underlying27 info5 (.slice sp7 0 cap7) (([] : List Int)) (by rfl) ?ho pr nr cr raw (by rfl) hnr ?hnil ?hby ?hlen ?hB ?_; (case ho => exact o7); (case hnil => exact hcr); (case hby => exact hr.below hb7); (case hlen => omega); (case hB => exact (zb.trans b7).size); rw [ly2]; intro sp8 cap8 w8 o8 b8 g8)))
          have xb := zb.trans (b7.trans b8)
          have xr : Own8 w8 w.heap.size 5 (.slice none 0 0) (([] : List Int)) := oX.below xb (Nat.le_refl _)
          have xl := own8_take xr
          have xl8 := own8_take o8
          have hbw := bX.trans (xb.mono bX.size)
          go_ret
          refine ⟨w8.heap.size, ([] : List Int), (([] : List Int)) ++ raw, none, sp8, 0, cap8, ⟨rfl, ?_, xr.bytes.below ((Below.refl _ _).alloc (Nat.le_refl _) _), (fun x hx => by simp at hx), by omega, by omega, o8.bytes.below ((Below.refl _ _).alloc (Nat.le_refl _) _), By.append (fun x hx => by simp at hx) yr, by rw [ly2]; omega, by omega, hbw.size, hbw.alloc hbw.size _⟩⟩
          rw [ly2, lx2]
          exact Row.new w8 27 _
        · clear hn0 hn1 hn2
          have hs6 := oK.below ((Below.refl wr.heap.size wr).alloc (Nat.le_refl _) (.cells #[] 5)) (Nat.le_refl _)
          have n6 := own_nil0 oK
          have z0 : Own8 (wr.alloc (.cells #[] 5)) wr.heap.size 5 (.slice (some ⟨wr.heap.size, 0, none⟩) 0 0) [] := own8_lit wr _ (Nat.le_refl _)
          have zb : Below wr.heap.size wr (wr.alloc (.cells #[] 5)) := (Below.refl _ _).alloc (Nat.le_refl _) _
          have lx2 : (X.take k).length = k := lK
          have ly2 : ((X.take k) ++ raw).length = k + nr := by rw [List.length_append, lx2, hnr]
          go_upto_region 8 with (go_at_call 27; (with_reducible refine Calls.mono (hw _) ?_); rintro e w2 ⟨rfl, hw2⟩; obtain rfl := hw2.symm; clear hw2)
          go_wp2_with (first | (at_builtin; (refine append8g (.tmp 65) (.tmp 66) 27 5 (by rfl) (by rfl) wr.heap.size Try.underlying27 info5 (.slice (some ⟨wr.heap.size, 0, none⟩) 0 0) [] (by rfl) ?ho (some ⟨g, 0, none⟩) k cap1 (X.take k) (by rfl) lx2 ?hnil ?hby ?hlen ?hB ?_; (case ho => exact z0); (case hnil => first | exact n6 | exact (fun _ => ⟨rfl, rfl⟩) | exact (fun h => by cases h)); (case hby => exact hs6.bytes); (case hlen => simp; try omega); (case hB => exact zb.size); rw [List.nil_append, lx2]; intro sp7 cap7 w7 o7 b7 g7; have hb7 := bX.trans ((zb.trans b7).mono bX.size))) | (at_builtin; (refine append8g (.tmp 67) (.tmp 68) 27 5 (by rfl) (by rfl) wr.heap.size Try.underlying27 info5 (.slice sp7 k cap7) (X.take k) (by rfl) ?ho pr nr cr raw (by rfl) hnr ?hnil ?hby ?hlen ?hB ?_; (case ho => exact o7); (case hnil => exact hcr); (case hby => exact hr.below hb7); (case hlen => omega); (case hB => exact (zb.trans b7).size); rw [ly2]; intro sp8 cap8 w8 o8 b8 g8)))
          have xb := zb.trans (b7.trans b8)
          have xr : Own8 w8 w.heap.size 5 (.slice (some ⟨g, 0, none⟩) k cap1) (X.take k) := oK.below xb (Nat.le_refl _)
          have xl := own8_take xr
          have xl8 := own8_take o8
          have hbw := bX.trans (xb.mono bX.size)
          go_ret
          refine ⟨w8.heap.size, X.take k, (X.take k) ++ raw, (some ⟨g, 0, none⟩), sp8, cap1, cap8, ⟨rfl, ?_, xr.bytes.below ((Below.refl _ _).alloc (Nat.le_refl _) _), yK, by omega, by omega, o8.bytes.below ((Below.refl _ _).alloc (Nat.le_refl _) _), By.append yK yr, by rw [ly2]; omega, by omega, hbw.size, hbw.alloc hbw.size _⟩⟩
          rw [ly2, lx2]
          exact Row.new w8 27 _
      · have hcb : (cut.tmod 2 == 1) = false := by simpa using hc
        have hs6 := oX.below ((Below.refl wr.heap.size wr).alloc (Nat.le_refl _) (.cells #[] 5)) (Nat.le_refl _)
        have n6 := own_nil0 oX
        have z0 : Own8 (wr.alloc (.cells #[] 5)) wr.heap.size 5 (.slice (some ⟨wr.heap.size, 0, none⟩) 0 0) [] := own8_lit wr _ (Nat.le_refl _)
        have zb : Below wr.heap.size wr (wr.alloc (.cells #[] 5)) := (Below.refl _ _).alloc (Nat.le_refl _) _
        have lx2 : (X).length = nb := lX
        have ly2 : ((X) ++ raw).length = nb + nr := by rw [List.length_append, lx2, hnr]
        go_upto_region 8 with fail
        go_wp2_with (first | (at_builtin; (refine append8g (.tmp 65) (.tmp 66) 27 5 (by rfl) (by rfl) wr.heap.size Try.underlying27 info5 (.slice (some ⟨wr.heap.size, 0, none⟩) 0 0) [] (by rfl) ?ho sp1 nb cap1 (X) (by rfl) lx2 ?hnil ?hby ?hlen ?hB ?_; (case ho => exact z0); (case hnil => first | exact n6 | exact (fun _ => ⟨rfl, rfl⟩) | exact (fun h => by cases h)); (case hby => exact hs6.bytes); (case hlen => simp; try omega); (case hB => exact zb.size); rw [List.nil_append, lx2]; intro sp7 cap7 w7 o7 b7 g7; have hb7 := bX.trans ((zb.trans b7).mono bX.size))) | (at_builtin; (refine append8g (.tmp 67) (.tmp 68) 27 5 (by rfl) (by rfl) wr.heap.size Try.underlying27 info5 (.slice sp7 nb cap7) (X) (by rfl) ?ho pr nr cr raw (by rfl) hnr ?hnil ?hby ?hlen ?hB ?_; (case ho => exact o7); (case hnil => exact hcr); (case hby => exact hr.below hb7); (case hlen => omega); (case hB => exact (zb.trans b7).size); rw [ly2]; intro sp8 cap8 w8 o8 b8 g8)))
        have xb := zb.trans (b7.trans b8)
        have xr : Own8 w8 w.heap.size 5 (.slice sp1 nb cap1) (X) := oX.below xb (Nat.le_refl _)
        have xl := own8_take xr
        have xl8 := own8_take o8
        have hbw := bX.trans (xb.mono bX.size)
        go_ret
        refine ⟨w8.heap.size, X, (X) ++ raw, sp1, sp8, cap1, cap8, ⟨rfl, ?_, xr.bytes.below ((Below.refl _ _).alloc (Nat.le_refl _) _), yX, by omega, by omega, o8.bytes.below ((Below.refl _ _).alloc (Nat.le_refl _) _), By.append yX yr, by rw [ly2]; omega, by omega, hbw.size, hbw.alloc hbw.size _⟩⟩
        rw [ly2, lx2]
        exact Row.new w8 27 _
end Go.Proofs.Ytgcffdnbihfghaa
