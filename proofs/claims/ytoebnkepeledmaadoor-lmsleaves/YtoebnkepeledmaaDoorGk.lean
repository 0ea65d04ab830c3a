/- The tree and the key of the reference of lms, and the example. -/
import Derived.Test.YtoebnkepeledmaaDoorGj
namespace Go.Proofs.YtoebnkepeledmaaDoor

section
open Go Go.RowKit

theorem info_id : (Tryd.prog.info? 24).map (fun i => (i.zero, i.size, i.bytes)) = some (some (.agg (v8 (zer 32))), 32, 32) := by kernel_rfl
theorem made_zer (m : Nat) : madeCells (Value.agg (v8 (zer 32))).cells m = v8 (zer m) := by
  apply Array.ext
  · simp [size_madeCells, v8, zer]
  · intro i h1 h2
    have h3 : i % 32 < 32 := Nat.mod_lt _ (by decide)
    have h4 : (v8 (zer 32))[i % 32]? = some (.int .u8 0) := by
      rw [v8_at (by rw [zer_len]; exact h3)]
      unfold gi zer
      rw [List.getD_eq_getElem?_getD, List.getElem?_replicate, if_pos h3]
      rfl
    have h5 : (v8 (zer 32))[i % 32]! = .int .u8 0 := by simp only [Array.getElem!_eq_getD, Array.getD_eq_getD_getElem?, h4, Option.getD_some]
    have h6 : (Value.agg (v8 (zer 32))).cells = v8 (zer 32) := rfl
    have h7 : (v8 (zer 32)).size = 32 := by rw [v8_size, zer_len]
    have h8 : i < m := by rw [size_madeCells] at h1; exact h1
    have h9 : (v8 (zer m))[i]? = some (.int .u8 0) := by
      rw [v8_at (by rw [zer_len]; exact h8)]
      unfold gi zer
      rw [List.getD_eq_getElem?_getD, List.getElem?_replicate, if_pos h8]
      rfl
    rw [Array.getElem?_eq_getElem h2] at h9
    have h10 := Option.some.inj h9
    rw [h10]
    simp only [madeCells, h6, h7, Array.getElem_map, Array.getElem_range]
    exact h5
theorem make_ids (n : Nat) (hn : n ≤ 1000) (wx : World) : (Instr.makeSlice 82 (.int .i64 (2 * (n : Int))) (.int .i64 (2 * (n : Int)))).run Tryd.prog wx = .ok (.slice (some ⟨wx.heap.size, 0, none⟩) (2 * n) (2 * n)) (wx.alloc (.cells (v8 (zer (64 * n))) 24)) := by
  obtain ⟨i, hi, hz, h1, h2⟩ : ∃ i, Tryd.prog.info? 24 = some i ∧ i.zero = some (.agg (v8 (zer 32))) ∧ i.size = 32 ∧ i.bytes = 32 := by
    have hinfo := info_id
    cases hq : Tryd.prog.info? 24 with
    | none => simp [hq] at hinfo
    | some i => simp only [hq, Option.map_some, Option.some.injEq, Prod.mk.injEq] at hinfo; exact ⟨i, rfl, hinfo.1, hinfo.2.1, hinfo.2.2⟩
  rw [run_make wx 82 24 i (.agg (v8 (zer 32))) Tryd.underlying82 hi hz .i64 .i64 _ _ (by omega) (by omega) (by rw [h2]; omega) (by omega), made_zer, h1, show (2 * (n : Int)).toNat = 2 * n by omega, show 2 * n * 32 = 64 * n by omega]
theorem cut_bytes {w : World} {g : Nat} {t : TypeId} {A : List Int} (h : Row w g t (v8 A)) (r : Nat) (hr : 32 * r + 32 ≤ A.length) : Bytes w (some ⟨g, r * 32, none⟩) (cutN A r) := fun _ =>
  ⟨g, r * 32, rfl, fun j hj => by
    have hl := cutN_len hr
    have e : gi (cutN A r) j = gi A (r * 32 + j) := by
      unfold gi cutN
      rw [List.getD_eq_getElem?_getD, List.getD_eq_getElem?_getD, List.getElem?_take_of_lt (by omega), List.getElem?_drop, Nat.mul_comm]
    rw [h.cell8 (by omega), e]⟩

set_option maxRecDepth 20000 in
set_option maxHeartbeats 1000000 in
theorem six_tree_any (S : List Int → List Int) (hS : Hash S) (nm seed : List Int) (h : Nat) (w0 : World) (hn : nm.length = 16) (hs : seed.length = 32) (h1 : 1 ≤ h) (h5 : h ≤ 5) :
    Calls Tryd.prog 47 #[.agg (v8 nm), .agg (v8 seed), .int .i64 (h : Int)] w0 fun e w' => ∃ g A, e = .returned (.slice (some ⟨g, 0, none⟩) (2 * 2 ^ h) (2 * 2 ^ h)) ∧ Row w' g 24 (v8 A) ∧ A.length = 64 * 2 ^ h ∧ (∀ r, 1 ≤ r → r < 2 * 2 ^ h → cutN A r = nodeN S nm seed (2 ^ h) r) ∧ w0.heap.size ≤ g ∧ Below w0.heap.size w0 w' := by
  obtain ⟨n, hnd⟩ : ∃ n, n = 2 ^ h := ⟨_, rfl⟩
  have hpw : wrap64 ((2 : Int) ^ h) = (n : Int) := by
    subst hnd
    rcases (by omega : h = 1 ∨ h = 2 ∨ h = 3 ∨ h = 4 ∨ h = 5) with rfl | rfl | rfl | rfl | rfl <;> decide +kernel
  have hn2 : 2 ≤ n ∧ n ≤ 32 := by
    subst hnd
    rcases (by omega : h = 1 ∨ h = 2 ∨ h = 3 ∨ h = 4 ∨ h = 5) with rfl | rfl | rfl | rfl | rfl <;> decide
  rw [← hnd]
  clear hnd
  have hNl : ∀ r, (nodeN S nm seed n r).length = 32 := nodeN_len (fun l => hS.len l) nm seed n
  have hlf : ∀ (k g : Nat) wx, Bytes wx (some ⟨g, 0, none⟩) (pubL S (nm ++ n4 (k : Int)) seed) → Calls Tryd.prog 56 #[.agg (v8 nm), .int .i64 ((n : Int) + (k : Int)), .int .u8 130, .slice (some ⟨g, 0, none⟩) 32 32] wx fun e w' => e = .returned (.agg (v8 (nodeN S nm seed n (n + k)))) ∧ Below wx.heap.size wx w' := fun k g wx hb => by
    rw [nodeN_leaf]; exact six_node_any S hS nm _ _ _ _ 32 32 wx hn (hS.len _) (by omega) (fun h => by cases h) hb
  have hpb : ∀ (k : Nat) wx, Calls Tryd.prog 16 #[.agg (v8 nm), .int .i64 (k : Int), .agg (v8 seed)] wx fun e w' => e = .returned (.agg (v8 (pubL S (nm ++ n4 (k : Int)) seed))) ∧ Below wx.heap.size wx w' := fun k wx => rPublic_any S hS nm seed k wx hn hs
  have hab0 : ∀ (r : Nat), 1 ≤ r ∧ r < n → ∀ wx B sp cap, Own8 wx B 5 (.slice sp 64 cap) (nodeN S nm seed n (2 * r) ++ nodeN S nm seed n (2 * r + 1)) → Calls Tryd.prog 56 #[.agg (v8 nm), .int .i64 (r : Int), .int .u8 131, .slice sp 64 cap] wx fun e w' => e = .returned (.agg (v8 (nodeN S nm seed n r))) ∧ Below wx.heap.size wx w' := fun r hr wx B sp cap ho => by
    rw [nodeN_above S nm seed n r hr, List.append_assoc (nm ++ n4 (r : Int) ++ [131, 131])]
    exact six_node_any S hS nm _ _ _ _ 64 cap wx hn (by rw [List.length_append, hNl, hNl]) (by omega) (own_nil0 ho) ho.bytes
  generalize nodeN S nm seed n = N at *
  have hPl : ∀ k : Nat, (pubL S (nm ++ n4 (k : Int)) seed).length = 32 := fun k => hS.len _
  have hmk := make_ids n (by omega)
  have z32 := zv32
  go_enter Tryd.func47, Tryd.ntmps47
  go_upto_region 3 with fail
  simp only [hpw]
  have r0 : Row (World.alloc (World.alloc (World.alloc w0 (.cells (v8 nm) 22)) (.cells (v8 seed) 24)) (.cells (v8 (zer (64 * n))) 24)) w0.heap.size 22 (v8 nm) := ((Row.new _ _ _).alloc _).alloc _
  have r1 : Row (World.alloc (World.alloc (World.alloc w0 (.cells (v8 nm) 22)) (.cells (v8 seed) 24)) (.cells (v8 (zer (64 * n))) 24)) (w0.heap.size + 1) 24 (v8 seed) := (Row.newAt _ _ _ _ (by simp)).alloc _
  have r2 : Row (World.alloc (World.alloc (World.alloc w0 (.cells (v8 nm) 22)) (.cells (v8 seed) 24)) (.cells (v8 (zer (64 * n))) 24)) (w0.heap.size + 2) 24 (v8 (zer (64 * n))) := Row.newAt _ _ _ _ (by simp)
  have b1 : Below w0.heap.size w0 (World.alloc (World.alloc (World.alloc w0 (.cells (v8 nm) 22)) (.cells (v8 seed) 24)) (.cells (v8 (zer (64 * n))) 24)) := (((Below.refl _ _).alloc (Nat.le_refl _) _).alloc (by simp) _).alloc (by simp; omega) _
  change Code.wp _ _ _ _ ((World.alloc (World.alloc (World.alloc w0 (.cells (v8 nm) 22)) (.cells (v8 seed) 24)) (.cells (v8 (zer (64 * n))) 24)))
  generalize (World.alloc (World.alloc (World.alloc w0 (.cells (v8 nm) 22)) (.cells (v8 seed) 24)) (.cells (v8 (zer (64 * n))) 24)) = w1 at r0 r1 r2 b1 ⊢
  clear hmk hpw
  go_wp2
  go_loopw [9] (fun v wr => ∃ (k : Nat) (A : List Int), k ≤ n ∧ v = .int .i64 (k : Int) ∧ A.length = 64 * n ∧ (∀ j, j < k → cutN A (n + j) = N (n + j)) ∧ Row wr w0.heap.size 22 (v8 nm) ∧ Row wr (w0.heap.size + 1) 24 (v8 seed) ∧ Row wr (w0.heap.size + 2) 24 (v8 A) ∧ Below w0.heap.size w0 wr) (fun v _ => n - (intOf v).toNat)
  case atStart => exact ⟨0, zer (64 * n), by omega, rfl, zer_len _, (fun j hj => absurd hj (Nat.not_lt_zero _)), r0, r1, r2, b1⟩
  case round =>
    clear r0 r1 r2 b1
    obtain ⟨k, A, hk, rfl, hAl, hcut, z0, z1, z2, zb⟩ := hrel
    by_cases hlt : k < n
    · have hlt' : (k : Int) < (n : Int) := by omega
      have hz2 := z2.lt
      go_upto_region 7 with (first | (refine wpList_load_row (by rfl) 22 (.tmp 3) (by rfl) w0.heap.size (by rfl) 22 (v8 nm) (0, 0) _ z0 Tryd.underlying22 rfl (name_info hn) ?_) | (refine wpList_load_row (by rfl) 24 (.tmp 4) (by rfl) (w0.heap.size + 1) (by rfl) 24 (v8 seed) (0, 0) _ z1 Tryd.underlying24 rfl (id_info hs) ?_) | (go_at_call 16; (with_reducible refine Calls.mono (hpb k _) ?_); rintro e w3 ⟨rfl, hb3⟩) | (refine store_row0 24 (.tmp 10) (.tmp 26) (by rfl) (by rfl) (by rfl) w3.heap.size (v8 (pubL S (nm ++ n4 (k : Int)) seed)) (by rfl) (by rfl) 24 (v8 (zer 32)) (Row.new w3 24 _) (id_info (hPl k)) (by rw [v8_size, v8_size, hPl, zer_len]) (v8_one _) ?_))
      have hs3 := hb3.size
      have hPk := hPl k
      have hlfk := hlf k
      have v0 := ((z0.below hb3 z0.lt).alloc (.cells (v8 (zer 32)) 24)).setRowOther (g := w3.heap.size) (by omega) (v8 (pubL S (nm ++ n4 (k : Int)) seed))
      have v1 := ((z1.below hb3 z1.lt).alloc (.cells (v8 (zer 32)) 24)).setRowOther (g := w3.heap.size) (by omega) (v8 (pubL S (nm ++ n4 (k : Int)) seed))
      have v2 := ((z2.below hb3 z2.lt).alloc (.cells (v8 (zer 32)) 24)).setRowOther (g := w3.heap.size) (by omega) (v8 (pubL S (nm ++ n4 (k : Int)) seed))
      have vp := (Row.new w3 24 (v8 (zer 32))).setRow (v8 (pubL S (nm ++ n4 (k : Int)) seed))
      have vb : Below w0.heap.size w0 ((w3.alloc (.cells (v8 (zer 32)) 24)).setRow w3.heap.size (v8 (pubL S (nm ++ n4 (k : Int)) seed))) := below_setRow ((zb.trans (hb3.mono zb.size)).alloc (by have := zb.size; omega) _) (by have := zb.size; omega) _
      obtain ⟨gp, hgp⟩ : ∃ gp, gp = w3.heap.size := ⟨_, rfl⟩
      have hgp2 : w0.heap.size + 2 < gp := by omega
      change Code.wp _ _ _ _ ((w3.alloc (.cells (v8 (zer 32)) 24)).setRow w3.heap.size (v8 (pubL S (nm ++ n4 (k : Int)) seed)))
      rw [← hgp] at v0 v1 v2 vp vb ⊢
      generalize (w3.alloc (.cells (v8 (zer 32)) 24)).setRow gp (v8 (pubL S (nm ++ n4 (k : Int)) seed)) = w4 at v0 v1 v2 vp vb ⊢
      generalize pubL S (nm ++ n4 (k : Int)) seed = PK at *
      clear hgp z0 z1 z2 zb hb3 hs3 hz2
      refine region_tail 11 (by kernel_rfl) (by kernel_rfl) (by kernel_rfl) ?_
      apply Exists.intro
      refine ⟨fun ι _ W hb hc => ?_, fun w6 hb6 => ?_⟩
      · have t0 : ∀ i, Row (W i) w0.heap.size 22 (v8 nm) := fun i => v0.below (hb i) v0.lt
        have tp : ∀ i, Bytes (W i) (some ⟨gp, 0, none⟩) PK := fun i => (vp.below (hb i) vp.lt).bytes
        simp only [List.take_succ_cons, List.take_zero]
        iterate 4 (go_big_quiet_step (fail))
        refine q_load_row 22 (.tmp 3) (by rfl) (by rfl) w0.heap.size (by rfl) 22 _ _ t0 Tryd.underlying22 rfl (name_info hn) ?_
        simp only [Act.put, List.setIfInBounds_toArray, List.set_cons_succ, List.set_cons_zero]
        iterate 4 (go_big_quiet_step (fail))
        go_big_quiet_step ((go_at_call 56; exact (hlfk gp _ (tp _)).mono (fun e w' ⟨he, hw⟩ => ⟨he, hc _ _ hw⟩)))
        go_big_quiet_step (fail)
        exact wpQuiet_nil rfl
      · simp only [List.drop_succ_cons, List.drop_zero]
        have x0 := v0.below hb6 v0.lt
        have x1 := v1.below hb6 v1.lt
        have x2 := v2.below hb6 v2.lt
        have xb := vb.trans (hb6.mono vb.size)
        refine store_mid8 24 (.tmp 37) (.tmp 36) (by rfl) (by rfl) (by rfl) (w0.heap.size + 2) ((n + k) * 32) (N (n + k)) (by rfl) (by rfl) 24 A x2 (id_info (hNl _)) (by rw [hNl, hAl]; omega) ?_
        rw [Nat.mul_comm (n + k) 32]
        have hA2 : (spl A (32 * (n + k)) (N (n + k))).length = 64 * n := by rw [spl_len32 (hNl _) (by omega)]; exact hAl
        have hc2 : ∀ j, j < k + 1 → cutN (spl A (32 * (n + k)) (N (n + k))) (n + j) = N (n + j) := fun j hj => by
          by_cases e : j = k
          · subst e; exact cut_same (hNl _) (by omega)
          · rw [cut_other (hNl _) (by omega) (by omega)]; exact hcut j (by omega)
        generalize spl A (32 * (n + k)) (N (n + k)) = A2 at *
        have u0 := x0.setRowOther (g := w0.heap.size + 2) (by omega) (v8 A2)
        have u1 := x1.setRowOther (g := w0.heap.size + 2) (by omega) (v8 A2)
        have u2 := x2.setRow (v8 A2)
        have ub := below_setRow (g := w0.heap.size + 2) xb (by omega) (v8 A2)
        generalize w6.setRow (w0.heap.size + 2) (v8 A2) = w7 at u0 u1 u2 ub ⊢
        clear v0 v1 v2 vp vb x0 x1 x2 xb hb6 hcut hAl hlfk
        go_wp2
        go_roundw
        case rel => exact ⟨k + 1, A2, by omega, by go_num, hA2, hc2, u0, u1, u2, ub⟩
        case measure => simp [intOf]; omega
    · obtain rfl : k = n := by omega
      go_wp2
      go_loopw [11] (fun v wr => ∃ (r : Nat) (A : List Int), r < k ∧ v = .int .i64 (r : Int) ∧ A.length = 64 * k ∧ (∀ j, r < j → j < 2 * k → cutN A j = N j) ∧ Row wr w0.heap.size 22 (v8 nm) ∧ Row wr (w0.heap.size + 2) 24 (v8 A) ∧ Below w0.heap.size w0 wr) (fun v _ => (intOf v).toNat)
      case atStart =>
        refine ⟨k - 1, A, by omega, ?_, hAl, (fun j h1 h2 => ?_), z0, z2, zb⟩
        · rw [show ((k - 1 : Nat) : Int) = (k : Int) - 1 by omega]
        · have := hcut (j - k) (by omega)
          rwa [show k + (j - k) = j by omega] at this
      case round =>
        clear z0 z1 z2 zb hcut hAl
        obtain ⟨r, A, hr, rfl, hAl, hcut, z0, z2, zb⟩ := hrel
        by_cases hr0 : 0 < r
        · have hc1 := hcut (2 * r) (by omega) (by omega)
          have hc2 := hcut (2 * r + 1) (by omega) (by omega)
          have hab := fun wx B sp cap ho => hab0 r ⟨hr0, hr⟩ wx B sp cap ho
          have hN1 := hNl (2 * r)
          have hN2 := hNl (2 * r + 1)
          have h64 : (N (2 * r) ++ N (2 * r + 1)).length = 64 := by rw [List.length_append, hN1, hN2]
          have hz0 := z0.lt
          have hz2 := z2.lt
          have hrI : (r : Int) < (k : Int) := by omega
          have hkI : (k : Int) ≤ 32 := by omega
          have hr1I : (2 : Int) * r < ((2 * k : Nat) : Int) := by omega
          have hr2I : (2 : Int) * r + 1 < ((2 * k : Nat) : Int) := by omega
          go_upto_region 11 with fail
          obtain ⟨B, hB⟩ : ∃ B, B = wr.heap.size := ⟨_, rfl⟩
          have hsB : ∀ {w : World}, Below B wr w → B ≤ w.heap.size := fun h => by have := h.size; omega
          have hx1 : ∀ w, Below B wr w → Bytes w (some ⟨w0.heap.size + 2, 2 * r * 32, none⟩) (N (2 * r)) := fun w hb => by
            have := cut_bytes (z2.below hb (by omega)) (2 * r) (by omega)
            rwa [hc1] at this
          have hx2 : ∀ w, Below B wr w → Bytes w (some ⟨w0.heap.size + 2, (2 * r + 1) * 32, none⟩) (N (2 * r + 1)) := fun w hb => by
            have := cut_bytes (z2.below hb (by omega)) (2 * r + 1) (by omega)
            rwa [hc2] at this
          refine region_invF 20 (by kernel_rfl) (by kernel_rfl) (fun a0 listed a w => ∃ s44 s45 s46 s47 s48 s49 s50 s51 s52 s53 s54 s55 s56 s57 s58 s59 s60 s61 s62 s63, a = (Act.put (Act.put (Act.put (Act.put (Act.put (Act.put (Act.put (Act.put (Act.put (Act.put (Act.put (Act.put (Act.put (Act.put (Act.put (Act.put (Act.put (Act.put (Act.put (Act.put a0 (some 44) s44) (some 45) s45) (some 46) s46) (some 47) s47) (some 48) s48) (some 49) s49) (some 50) s50) (some 51) s51) (some 52) s52) (some 53) s53) (some 54) s54) (some 55) s55) (some 56) s56) (some 57) s57) (some 58) s58) (some 59) s59) (some 60) s60) (some 61) s61) (some 62) s62) (some 63) s63) ∧ Below B wr w ∧ (listed.getD 0 false = true → s44 = .slice (some ⟨w0.heap.size + 2, 0, none⟩) (2 * k) (2 * k)) ∧ (listed.getD 1 false = true → s45 = .int .i64 (r : Int)) ∧ (listed.getD 2 false = true → s46 = .agg (v8 nm)) ∧ (listed.getD 3 false = true → s47 = .int .i64 (r : Int)) ∧ (listed.getD 4 false = true → listed.getD 10 false = false → OwnS w B s48 0 []) ∧ (listed.getD 5 false = true → s49 = .slice (some ⟨w0.heap.size + 2, 0, none⟩) (2 * k) (2 * k)) ∧ (listed.getD 6 false = true → s50 = .int .i64 (r : Int)) ∧ (listed.getD 7 false = true → s51 = .int .i64 (2 * (r : Int))) ∧ (listed.getD 8 false = true → s52 = .pointer (some ⟨w0.heap.size + 2, 2 * r * 32, none⟩)) ∧ (listed.getD 9 false = true → s53 = .slice (some ⟨w0.heap.size + 2, 2 * r * 32, none⟩) 32 32) ∧ (listed.getD 10 false = true → listed.getD 17 false = false → OwnS w B s54 32 (N (2 * r))) ∧ (listed.getD 11 false = true → s55 = .slice (some ⟨w0.heap.size + 2, 0, none⟩) (2 * k) (2 * k)) ∧ (listed.getD 12 false = true → s56 = .int .i64 (r : Int)) ∧ (listed.getD 13 false = true → s57 = .int .i64 (2 * (r : Int))) ∧ (listed.getD 14 false = true → s58 = .int .i64 (2 * (r : Int) + 1)) ∧ (listed.getD 15 false = true → s59 = .pointer (some ⟨w0.heap.size + 2, (2 * r + 1) * 32, none⟩)) ∧ (listed.getD 16 false = true → s60 = .slice (some ⟨w0.heap.size + 2, (2 * r + 1) * 32, none⟩) 32 32) ∧ (listed.getD 17 false = true → listed.getD 18 false = false → OwnS w B s61 64 (N (2 * r) ++ N (2 * r + 1))) ∧ (listed.getD 18 false = true → s62 = .agg (v8 (N r))) ∧ (listed.getD 19 false = true → s63 = .pointer (some ⟨w0.heap.size + 2, r * 32, none⟩))) ?_ ?_ ?_
          all_goals simp only [Act.put, List.setIfInBounds_toArray, List.set_cons_succ, List.set_cons_zero]
          · exact ⟨_, _, _, _, _, _, _, _, _, _, _, _, _, _, _, _, _, _, _, _, rfl, (Below.refl B _).drew, (fun h => absurd h (by rw [getD_replicate_false]; decide)), (fun h => absurd h (by rw [getD_replicate_false]; decide)), (fun h => absurd h (by rw [getD_replicate_false]; decide)), (fun h => absurd h (by rw [getD_replicate_false]; decide)), (fun h => absurd h (by rw [getD_replicate_false]; decide)), (fun h => absurd h (by rw [getD_replicate_false]; decide)), (fun h => absurd h (by rw [getD_replicate_false]; decide)), (fun h => absurd h (by rw [getD_replicate_false]; decide)), (fun h => absurd h (by rw [getD_replicate_false]; decide)), (fun h => absurd h (by rw [getD_replicate_false]; decide)), (fun h => absurd h (by rw [getD_replicate_false]; decide)), (fun h => absurd h (by rw [getD_replicate_false]; decide)), (fun h => absurd h (by rw [getD_replicate_false]; decide)), (fun h => absurd h (by rw [getD_replicate_false]; decide)), (fun h => absurd h (by rw [getD_replicate_false]; decide)), (fun h => absurd h (by rw [getD_replicate_false]; decide)), (fun h => absurd h (by rw [getD_replicate_false]; decide)), (fun h => absurd h (by rw [getD_replicate_false]; decide)), (fun h => absurd h (by rw [getD_replicate_false]; decide)), (fun h => absurd h (by rw [getD_replicate_false]; decide))⟩
          · intro listed a w i o hls hJ hin ho hi hall hcl
            obtain ⟨s44, s45, s46, s47, s48, s49, s50, s51, s52, s53, s54, s55, s56, s57, s58, s59, s60, s61, s62, s63, rfl, hbW, c0, c1, c2, c3, c4, c5, c6, c7, c8, c9, c10, c11, c12, c13, c14, c15, c16, c17, c18, c19⟩ := hJ
            rcases (by omega : i = 0 ∨ i = 1 ∨ i = 2 ∨ i = 3 ∨ i = 4 ∨ i = 5 ∨ i = 6 ∨ i = 7 ∨ i = 8 ∨ i = 9 ∨ i = 10 ∨ i = 11 ∨ i = 12 ∨ i = 13 ∨ i = 14 ∨ i = 15 ∨ i = 16 ∨ i = 17 ∨ i = 18 ∨ i = 19) with rfl | rfl | rfl | rfl | rfl | rfl | rfl | rfl | rfl | rfl | rfl | rfl | rfl | rfl | rfl | rfl | rfl | rfl | rfl | rfl
            · obtain rfl := Option.some.inj ho
              have hsz : 0 < listed.size := by rw [hls]; decide
              have hbw := hbW
              refine inv_val (w' := w) (.slice (some ⟨w0.heap.size + 2, 0, none⟩) (2 * k) (2 * k)) rfl rfl rfl ?_
              exact ⟨(.slice (some ⟨w0.heap.size + 2, 0, none⟩) (2 * k) (2 * k)), s45, s46, s47, s48, s49, s50, s51, s52, s53, s54, s55, s56, s57, s58, s59, s60, s61, s62, s63, rfl, hbw, (fun _ => rfl), (fun h => c1 (bit_ne h (by decide))), (fun h => c2 (bit_ne h (by decide))), (fun h => c3 (bit_ne h (by decide))), (fun h h2 => c4 (bit_ne h (by decide)) (bit_ne h2 (by decide))), (fun h => c5 (bit_ne h (by decide))), (fun h => c6 (bit_ne h (by decide))), (fun h => c7 (bit_ne h (by decide))), (fun h => c8 (bit_ne h (by decide))), (fun h => c9 (bit_ne h (by decide))), (fun h h2 => c10 (bit_ne h (by decide)) (bit_ne h2 (by decide))), (fun h => c11 (bit_ne h (by decide))), (fun h => c12 (bit_ne h (by decide))), (fun h => c13 (bit_ne h (by decide))), (fun h => c14 (bit_ne h (by decide))), (fun h => c15 (bit_ne h (by decide))), (fun h => c16 (bit_ne h (by decide))), (fun h h2 => c17 (bit_ne h (by decide)) (bit_ne h2 (by decide))), (fun h => c18 (bit_ne h (by decide))), (fun h => c19 (bit_ne h (by decide)))⟩
            · obtain rfl := Option.some.inj ho
              have hsz : 1 < listed.size := by rw [hls]; decide
              have hbw := hbW
              refine inv_val (w' := w) (.int .i64 (r : Int)) rfl rfl rfl ?_
              exact ⟨s44, (.int .i64 (r : Int)), s46, s47, s48, s49, s50, s51, s52, s53, s54, s55, s56, s57, s58, s59, s60, s61, s62, s63, rfl, hbw, (fun h => c0 (bit_ne h (by decide))), (fun _ => rfl), (fun h => c2 (bit_ne h (by decide))), (fun h => c3 (bit_ne h (by decide))), (fun h h2 => c4 (bit_ne h (by decide)) (bit_ne h2 (by decide))), (fun h => c5 (bit_ne h (by decide))), (fun h => c6 (bit_ne h (by decide))), (fun h => c7 (bit_ne h (by decide))), (fun h => c8 (bit_ne h (by decide))), (fun h => c9 (bit_ne h (by decide))), (fun h h2 => c10 (bit_ne h (by decide)) (bit_ne h2 (by decide))), (fun h => c11 (bit_ne h (by decide))), (fun h => c12 (bit_ne h (by decide))), (fun h => c13 (bit_ne h (by decide))), (fun h => c14 (bit_ne h (by decide))), (fun h => c15 (bit_ne h (by decide))), (fun h => c16 (bit_ne h (by decide))), (fun h h2 => c17 (bit_ne h (by decide)) (bit_ne h2 (by decide))), (fun h => c18 (bit_ne h (by decide))), (fun h => c19 (bit_ne h (by decide)))⟩
            · obtain rfl := Option.some.inj ho
              have hsz : 2 < listed.size := by rw [hls]; decide
              have hbw := hbW
              refine inv_val (w' := w) (.agg (v8 nm)) rfl rfl (exec_load_row 22 (.tmp 3) rfl w0.heap.size rfl 22 _ _ (z0.below hbW (by omega)) Tryd.underlying22 rfl (name_info hn)) ?_
              exact ⟨s44, s45, (.agg (v8 nm)), s47, s48, s49, s50, s51, s52, s53, s54, s55, s56, s57, s58, s59, s60, s61, s62, s63, rfl, hbw, (fun h => c0 (bit_ne h (by decide))), (fun h => c1 (bit_ne h (by decide))), (fun _ => rfl), (fun h => c3 (bit_ne h (by decide))), (fun h h2 => c4 (bit_ne h (by decide)) (bit_ne h2 (by decide))), (fun h => c5 (bit_ne h (by decide))), (fun h => c6 (bit_ne h (by decide))), (fun h => c7 (bit_ne h (by decide))), (fun h => c8 (bit_ne h (by decide))), (fun h => c9 (bit_ne h (by decide))), (fun h h2 => c10 (bit_ne h (by decide)) (bit_ne h2 (by decide))), (fun h => c11 (bit_ne h (by decide))), (fun h => c12 (bit_ne h (by decide))), (fun h => c13 (bit_ne h (by decide))), (fun h => c14 (bit_ne h (by decide))), (fun h => c15 (bit_ne h (by decide))), (fun h => c16 (bit_ne h (by decide))), (fun h h2 => c17 (bit_ne h (by decide)) (bit_ne h2 (by decide))), (fun h => c18 (bit_ne h (by decide))), (fun h => c19 (bit_ne h (by decide)))⟩
            · obtain rfl := Option.some.inj ho
              have hsz : 3 < listed.size := by rw [hls]; decide
              have hbw := hbW
              refine inv_val (w' := w) (.int .i64 (r : Int)) rfl rfl rfl ?_
              exact ⟨s44, s45, s46, (.int .i64 (r : Int)), s48, s49, s50, s51, s52, s53, s54, s55, s56, s57, s58, s59, s60, s61, s62, s63, rfl, hbw, (fun h => c0 (bit_ne h (by decide))), (fun h => c1 (bit_ne h (by decide))), (fun h => c2 (bit_ne h (by decide))), (fun _ => rfl), (fun h h2 => c4 (bit_ne h (by decide)) (bit_ne h2 (by decide))), (fun h => c5 (bit_ne h (by decide))), (fun h => c6 (bit_ne h (by decide))), (fun h => c7 (bit_ne h (by decide))), (fun h => c8 (bit_ne h (by decide))), (fun h => c9 (bit_ne h (by decide))), (fun h h2 => c10 (bit_ne h (by decide)) (bit_ne h2 (by decide))), (fun h => c11 (bit_ne h (by decide))), (fun h => c12 (bit_ne h (by decide))), (fun h => c13 (bit_ne h (by decide))), (fun h => c14 (bit_ne h (by decide))), (fun h => c15 (bit_ne h (by decide))), (fun h => c16 (bit_ne h (by decide))), (fun h h2 => c17 (bit_ne h (by decide)) (bit_ne h2 (by decide))), (fun h => c18 (bit_ne h (by decide))), (fun h => c19 (bit_ne h (by decide)))⟩
            · obtain rfl := Option.some.inj ho
              have hsz : 4 < listed.size := by rw [hls]; decide
              have hbw : Below B wr (w.alloc (.cells (v8 []) 5)) := hbW.alloc (hsB hbW) _
              refine inv_val (.slice (some ⟨w.heap.size, 0, none⟩) 0 0) (w' := w.alloc (.cells (v8 []) 5)) rfl rfl (by kernel_rfl) ?_
              exact ⟨s44, s45, s46, s47, (.slice (some ⟨w.heap.size, 0, none⟩) 0 0), s49, s50, s51, s52, s53, s54, s55, s56, s57, s58, s59, s60, s61, s62, s63, rfl, hbw, (fun h => c0 (bit_ne h (by decide))), (fun h => c1 (bit_ne h (by decide))), (fun h => c2 (bit_ne h (by decide))), (fun h => c3 (bit_ne h (by decide))), (fun _ _ => OwnS.new w B (hsB hbW)), (fun h => c5 (bit_ne h (by decide))), (fun h => c6 (bit_ne h (by decide))), (fun h => c7 (bit_ne h (by decide))), (fun h => c8 (bit_ne h (by decide))), (fun h => c9 (bit_ne h (by decide))), (fun h h2 => (c10 (bit_ne h (by decide)) (bit_ne h2 (by decide))).alloc _), (fun h => c11 (bit_ne h (by decide))), (fun h => c12 (bit_ne h (by decide))), (fun h => c13 (bit_ne h (by decide))), (fun h => c14 (bit_ne h (by decide))), (fun h => c15 (bit_ne h (by decide))), (fun h => c16 (bit_ne h (by decide))), (fun h h2 => (c17 (bit_ne h (by decide)) (bit_ne h2 (by decide))).alloc _), (fun h => c18 (bit_ne h (by decide))), (fun h => c19 (bit_ne h (by decide)))⟩
            · obtain rfl := Option.some.inj ho
              have hsz : 5 < listed.size := by rw [hls]; decide
              have hbw := hbW
              refine inv_val (w' := w) (.slice (some ⟨w0.heap.size + 2, 0, none⟩) (2 * k) (2 * k)) rfl rfl rfl ?_
              exact ⟨s44, s45, s46, s47, s48, (.slice (some ⟨w0.heap.size + 2, 0, none⟩) (2 * k) (2 * k)), s50, s51, s52, s53, s54, s55, s56, s57, s58, s59, s60, s61, s62, s63, rfl, hbw, (fun h => c0 (bit_ne h (by decide))), (fun h => c1 (bit_ne h (by decide))), (fun h => c2 (bit_ne h (by decide))), (fun h => c3 (bit_ne h (by decide))), (fun h h2 => c4 (bit_ne h (by decide)) (bit_ne h2 (by decide))), (fun _ => rfl), (fun h => c6 (bit_ne h (by decide))), (fun h => c7 (bit_ne h (by decide))), (fun h => c8 (bit_ne h (by decide))), (fun h => c9 (bit_ne h (by decide))), (fun h h2 => c10 (bit_ne h (by decide)) (bit_ne h2 (by decide))), (fun h => c11 (bit_ne h (by decide))), (fun h => c12 (bit_ne h (by decide))), (fun h => c13 (bit_ne h (by decide))), (fun h => c14 (bit_ne h (by decide))), (fun h => c15 (bit_ne h (by decide))), (fun h => c16 (bit_ne h (by decide))), (fun h h2 => c17 (bit_ne h (by decide)) (bit_ne h2 (by decide))), (fun h => c18 (bit_ne h (by decide))), (fun h => c19 (bit_ne h (by decide)))⟩
            · obtain rfl := Option.some.inj ho
              have hsz : 6 < listed.size := by rw [hls]; decide
              have hbw := hbW
              refine inv_val (w' := w) (.int .i64 (r : Int)) rfl rfl rfl ?_
              exact ⟨s44, s45, s46, s47, s48, s49, (.int .i64 (r : Int)), s51, s52, s53, s54, s55, s56, s57, s58, s59, s60, s61, s62, s63, rfl, hbw, (fun h => c0 (bit_ne h (by decide))), (fun h => c1 (bit_ne h (by decide))), (fun h => c2 (bit_ne h (by decide))), (fun h => c3 (bit_ne h (by decide))), (fun h h2 => c4 (bit_ne h (by decide)) (bit_ne h2 (by decide))), (fun h => c5 (bit_ne h (by decide))), (fun _ => rfl), (fun h => c7 (bit_ne h (by decide))), (fun h => c8 (bit_ne h (by decide))), (fun h => c9 (bit_ne h (by decide))), (fun h h2 => c10 (bit_ne h (by decide)) (bit_ne h2 (by decide))), (fun h => c11 (bit_ne h (by decide))), (fun h => c12 (bit_ne h (by decide))), (fun h => c13 (bit_ne h (by decide))), (fun h => c14 (bit_ne h (by decide))), (fun h => c15 (bit_ne h (by decide))), (fun h => c16 (bit_ne h (by decide))), (fun h h2 => c17 (bit_ne h (by decide)) (bit_ne h2 (by decide))), (fun h => c18 (bit_ne h (by decide))), (fun h => c19 (bit_ne h (by decide)))⟩
            · obtain rfl := Option.some.inj ho
              have hsz : 7 < listed.size := by rw [hls]; decide
              have hdep6 : listed.getD 6 false = true := hall ⟨6, .data⟩ (by simp) (by rfl)
              obtain rfl := c6 hdep6
              have hbw := hbW
              refine inv_val (w' := w) (.int .i64 (2 * (r : Int))) rfl rfl (by go_simp; rw [IntKind.wrap_i64]; omega) ?_
              exact ⟨s44, s45, s46, s47, s48, s49, (.int .i64 (r : Int)), (.int .i64 (2 * (r : Int))), s52, s53, s54, s55, s56, s57, s58, s59, s60, s61, s62, s63, rfl, hbw, (fun h => c0 (bit_ne h (by decide))), (fun h => c1 (bit_ne h (by decide))), (fun h => c2 (bit_ne h (by decide))), (fun h => c3 (bit_ne h (by decide))), (fun h h2 => c4 (bit_ne h (by decide)) (bit_ne h2 (by decide))), (fun h => c5 (bit_ne h (by decide))), (fun h => c6 (bit_ne h (by decide))), (fun _ => rfl), (fun h => c8 (bit_ne h (by decide))), (fun h => c9 (bit_ne h (by decide))), (fun h h2 => c10 (bit_ne h (by decide)) (bit_ne h2 (by decide))), (fun h => c11 (bit_ne h (by decide))), (fun h => c12 (bit_ne h (by decide))), (fun h => c13 (bit_ne h (by decide))), (fun h => c14 (bit_ne h (by decide))), (fun h => c15 (bit_ne h (by decide))), (fun h => c16 (bit_ne h (by decide))), (fun h h2 => c17 (bit_ne h (by decide)) (bit_ne h2 (by decide))), (fun h => c18 (bit_ne h (by decide))), (fun h => c19 (bit_ne h (by decide)))⟩
            · obtain rfl := Option.some.inj ho
              have hsz : 8 < listed.size := by rw [hls]; decide
              have hdep5 : listed.getD 5 false = true := hall ⟨5, .data⟩ (by simp) (by rfl)
              obtain rfl := c5 hdep5
              have hdep7 : listed.getD 7 false = true := hall ⟨7, .data⟩ (by simp) (by rfl)
              obtain rfl := c7 hdep7
              have hbw := hbW
              refine inv_val (w' := w) (.pointer (some ⟨w0.heap.size + 2, 2 * r * 32, none⟩)) rfl rfl (by go_simp; rw [if_pos (by omega), show (2 * (r : Int)).toNat = 2 * r by omega]) ?_
              exact ⟨s44, s45, s46, s47, s48, (.slice (some ⟨w0.heap.size + 2, 0, none⟩) (2 * k) (2 * k)), s50, (.int .i64 (2 * (r : Int))), (.pointer (some ⟨w0.heap.size + 2, 2 * r * 32, none⟩)), s53, s54, s55, s56, s57, s58, s59, s60, s61, s62, s63, rfl, hbw, (fun h => c0 (bit_ne h (by decide))), (fun h => c1 (bit_ne h (by decide))), (fun h => c2 (bit_ne h (by decide))), (fun h => c3 (bit_ne h (by decide))), (fun h h2 => c4 (bit_ne h (by decide)) (bit_ne h2 (by decide))), (fun h => c5 (bit_ne h (by decide))), (fun h => c6 (bit_ne h (by decide))), (fun h => c7 (bit_ne h (by decide))), (fun _ => rfl), (fun h => c9 (bit_ne h (by decide))), (fun h h2 => c10 (bit_ne h (by decide)) (bit_ne h2 (by decide))), (fun h => c11 (bit_ne h (by decide))), (fun h => c12 (bit_ne h (by decide))), (fun h => c13 (bit_ne h (by decide))), (fun h => c14 (bit_ne h (by decide))), (fun h => c15 (bit_ne h (by decide))), (fun h => c16 (bit_ne h (by decide))), (fun h h2 => c17 (bit_ne h (by decide)) (bit_ne h2 (by decide))), (fun h => c18 (bit_ne h (by decide))), (fun h => c19 (bit_ne h (by decide)))⟩
            · obtain rfl := Option.some.inj ho
              have hsz : 9 < listed.size := by rw [hls]; decide
              have hdep8 : listed.getD 8 false = true := hall ⟨8, .data⟩ (by simp) (by rfl)
              obtain rfl := c8 hdep8
              have hbw := hbW
              refine inv_val (w' := w) (.slice (some ⟨w0.heap.size + 2, 2 * r * 32, none⟩) 32 32) rfl rfl (by kernel_rfl) ?_
              exact ⟨s44, s45, s46, s47, s48, s49, s50, s51, (.pointer (some ⟨w0.heap.size + 2, 2 * r * 32, none⟩)), (.slice (some ⟨w0.heap.size + 2, 2 * r * 32, none⟩) 32 32), s54, s55, s56, s57, s58, s59, s60, s61, s62, s63, rfl, hbw, (fun h => c0 (bit_ne h (by decide))), (fun h => c1 (bit_ne h (by decide))), (fun h => c2 (bit_ne h (by decide))), (fun h => c3 (bit_ne h (by decide))), (fun h h2 => c4 (bit_ne h (by decide)) (bit_ne h2 (by decide))), (fun h => c5 (bit_ne h (by decide))), (fun h => c6 (bit_ne h (by decide))), (fun h => c7 (bit_ne h (by decide))), (fun h => c8 (bit_ne h (by decide))), (fun _ => rfl), (fun h h2 => c10 (bit_ne h (by decide)) (bit_ne h2 (by decide))), (fun h => c11 (bit_ne h (by decide))), (fun h => c12 (bit_ne h (by decide))), (fun h => c13 (bit_ne h (by decide))), (fun h => c14 (bit_ne h (by decide))), (fun h => c15 (bit_ne h (by decide))), (fun h => c16 (bit_ne h (by decide))), (fun h h2 => c17 (bit_ne h (by decide)) (bit_ne h2 (by decide))), (fun h => c18 (bit_ne h (by decide))), (fun h => c19 (bit_ne h (by decide)))⟩
            · obtain rfl := Option.some.inj ho
              have hsz : 10 < listed.size := by rw [hls]; decide
              have hdep4 : listed.getD 4 false = true := hall ⟨4, .data⟩ (by simp) (by rfl)
              obtain ⟨sp4, cap4, rfl, o4⟩ := c4 hdep4 hi
              have hdep9 : listed.getD 9 false = true := hall ⟨9, .data⟩ (by simp) (by rfl)
              obtain rfl := c9 hdep9
              refine inv_op rfl rfl (wp8g (.tmp 48) (.tmp 53) 28 5 rfl B Tryd.underlying28 info5 _ [] rfl o4 (some ⟨w0.heap.size + 2, 2 * r * 32, none⟩) 32 32 (N (2 * r)) rfl (hNl _) (fun h => by cases h) (hx1 w hbW) (by first | omega | simp | (simp; omega)) (hsB hbW) ?_)
              intro sp cap w' ow hb' hgg
              have hg := Grew.of hgg
              have hbw : Below B wr w' := hbW.trans hb'
              have hown := o4
              rw [List.nil_append, hNl] at ow ⊢
              exact ⟨s44, s45, s46, s47, (.slice sp4 0 cap4), s49, s50, s51, s52, (.slice (some ⟨w0.heap.size + 2, 2 * r * 32, none⟩) 32 32), (.slice sp 32 cap), s55, s56, s57, s58, s59, s60, s61, s62, s63, rfl, hbw, (fun h => c0 (bit_ne h (by decide))), (fun h => c1 (bit_ne h (by decide))), (fun h => c2 (bit_ne h (by decide))), (fun h => c3 (bit_ne h (by decide))), (fun _ h2 => absurd (bit_on hsz) (by rw [h2]; decide)), (fun h => c5 (bit_ne h (by decide))), (fun h => c6 (bit_ne h (by decide))), (fun h => c7 (bit_ne h (by decide))), (fun h => c8 (bit_ne h (by decide))), (fun h => c9 (bit_ne h (by decide))), (fun _ _ => ⟨sp, cap, rfl, ow⟩), (fun h => c11 (bit_ne h (by decide))), (fun h => c12 (bit_ne h (by decide))), (fun h => c13 (bit_ne h (by decide))), (fun h => c14 (bit_ne h (by decide))), (fun h => c15 (bit_ne h (by decide))), (fun h => c16 (bit_ne h (by decide))), (fun h _ => absurd (hcl 17 _ rfl (bit_ne h (by decide)) ⟨10, .data⟩ (by simp) rfl) (by rw [hi]; decide)), (fun h => c18 (bit_ne h (by decide))), (fun h => c19 (bit_ne h (by decide)))⟩
            · obtain rfl := Option.some.inj ho
              have hsz : 11 < listed.size := by rw [hls]; decide
              have hbw := hbW
              refine inv_val (w' := w) (.slice (some ⟨w0.heap.size + 2, 0, none⟩) (2 * k) (2 * k)) rfl rfl rfl ?_
              exact ⟨s44, s45, s46, s47, s48, s49, s50, s51, s52, s53, s54, (.slice (some ⟨w0.heap.size + 2, 0, none⟩) (2 * k) (2 * k)), s56, s57, s58, s59, s60, s61, s62, s63, rfl, hbw, (fun h => c0 (bit_ne h (by decide))), (fun h => c1 (bit_ne h (by decide))), (fun h => c2 (bit_ne h (by decide))), (fun h => c3 (bit_ne h (by decide))), (fun h h2 => c4 (bit_ne h (by decide)) (bit_ne h2 (by decide))), (fun h => c5 (bit_ne h (by decide))), (fun h => c6 (bit_ne h (by decide))), (fun h => c7 (bit_ne h (by decide))), (fun h => c8 (bit_ne h (by decide))), (fun h => c9 (bit_ne h (by decide))), (fun h h2 => c10 (bit_ne h (by decide)) (bit_ne h2 (by decide))), (fun _ => rfl), (fun h => c12 (bit_ne h (by decide))), (fun h => c13 (bit_ne h (by decide))), (fun h => c14 (bit_ne h (by decide))), (fun h => c15 (bit_ne h (by decide))), (fun h => c16 (bit_ne h (by decide))), (fun h h2 => c17 (bit_ne h (by decide)) (bit_ne h2 (by decide))), (fun h => c18 (bit_ne h (by decide))), (fun h => c19 (bit_ne h (by decide)))⟩
            · obtain rfl := Option.some.inj ho
              have hsz : 12 < listed.size := by rw [hls]; decide
              have hbw := hbW
              refine inv_val (w' := w) (.int .i64 (r : Int)) rfl rfl rfl ?_
              exact ⟨s44, s45, s46, s47, s48, s49, s50, s51, s52, s53, s54, s55, (.int .i64 (r : Int)), s57, s58, s59, s60, s61, s62, s63, rfl, hbw, (fun h => c0 (bit_ne h (by decide))), (fun h => c1 (bit_ne h (by decide))), (fun h => c2 (bit_ne h (by decide))), (fun h => c3 (bit_ne h (by decide))), (fun h h2 => c4 (bit_ne h (by decide)) (bit_ne h2 (by decide))), (fun h => c5 (bit_ne h (by decide))), (fun h => c6 (bit_ne h (by decide))), (fun h => c7 (bit_ne h (by decide))), (fun h => c8 (bit_ne h (by decide))), (fun h => c9 (bit_ne h (by decide))), (fun h h2 => c10 (bit_ne h (by decide)) (bit_ne h2 (by decide))), (fun h => c11 (bit_ne h (by decide))), (fun _ => rfl), (fun h => c13 (bit_ne h (by decide))), (fun h => c14 (bit_ne h (by decide))), (fun h => c15 (bit_ne h (by decide))), (fun h => c16 (bit_ne h (by decide))), (fun h h2 => c17 (bit_ne h (by decide)) (bit_ne h2 (by decide))), (fun h => c18 (bit_ne h (by decide))), (fun h => c19 (bit_ne h (by decide)))⟩
            · obtain rfl := Option.some.inj ho
              have hsz : 13 < listed.size := by rw [hls]; decide
              have hdep12 : listed.getD 12 false = true := hall ⟨12, .data⟩ (by simp) (by rfl)
              obtain rfl := c12 hdep12
              have hbw := hbW
              refine inv_val (w' := w) (.int .i64 (2 * (r : Int))) rfl rfl (by go_simp; rw [IntKind.wrap_i64]; omega) ?_
              exact ⟨s44, s45, s46, s47, s48, s49, s50, s51, s52, s53, s54, s55, (.int .i64 (r : Int)), (.int .i64 (2 * (r : Int))), s58, s59, s60, s61, s62, s63, rfl, hbw, (fun h => c0 (bit_ne h (by decide))), (fun h => c1 (bit_ne h (by decide))), (fun h => c2 (bit_ne h (by decide))), (fun h => c3 (bit_ne h (by decide))), (fun h h2 => c4 (bit_ne h (by decide)) (bit_ne h2 (by decide))), (fun h => c5 (bit_ne h (by decide))), (fun h => c6 (bit_ne h (by decide))), (fun h => c7 (bit_ne h (by decide))), (fun h => c8 (bit_ne h (by decide))), (fun h => c9 (bit_ne h (by decide))), (fun h h2 => c10 (bit_ne h (by decide)) (bit_ne h2 (by decide))), (fun h => c11 (bit_ne h (by decide))), (fun h => c12 (bit_ne h (by decide))), (fun _ => rfl), (fun h => c14 (bit_ne h (by decide))), (fun h => c15 (bit_ne h (by decide))), (fun h => c16 (bit_ne h (by decide))), (fun h h2 => c17 (bit_ne h (by decide)) (bit_ne h2 (by decide))), (fun h => c18 (bit_ne h (by decide))), (fun h => c19 (bit_ne h (by decide)))⟩
            · obtain rfl := Option.some.inj ho
              have hsz : 14 < listed.size := by rw [hls]; decide
              have hdep13 : listed.getD 13 false = true := hall ⟨13, .data⟩ (by simp) (by rfl)
              obtain rfl := c13 hdep13
              have hbw := hbW
              refine inv_val (w' := w) (.int .i64 (2 * (r : Int) + 1)) rfl rfl (by go_simp; rw [IntKind.wrap_i64]; omega) ?_
              exact ⟨s44, s45, s46, s47, s48, s49, s50, s51, s52, s53, s54, s55, s56, (.int .i64 (2 * (r : Int))), (.int .i64 (2 * (r : Int) + 1)), s59, s60, s61, s62, s63, rfl, hbw, (fun h => c0 (bit_ne h (by decide))), (fun h => c1 (bit_ne h (by decide))), (fun h => c2 (bit_ne h (by decide))), (fun h => c3 (bit_ne h (by decide))), (fun h h2 => c4 (bit_ne h (by decide)) (bit_ne h2 (by decide))), (fun h => c5 (bit_ne h (by decide))), (fun h => c6 (bit_ne h (by decide))), (fun h => c7 (bit_ne h (by decide))), (fun h => c8 (bit_ne h (by decide))), (fun h => c9 (bit_ne h (by decide))), (fun h h2 => c10 (bit_ne h (by decide)) (bit_ne h2 (by decide))), (fun h => c11 (bit_ne h (by decide))), (fun h => c12 (bit_ne h (by decide))), (fun h => c13 (bit_ne h (by decide))), (fun _ => rfl), (fun h => c15 (bit_ne h (by decide))), (fun h => c16 (bit_ne h (by decide))), (fun h h2 => c17 (bit_ne h (by decide)) (bit_ne h2 (by decide))), (fun h => c18 (bit_ne h (by decide))), (fun h => c19 (bit_ne h (by decide)))⟩
            · obtain rfl := Option.some.inj ho
              have hsz : 15 < listed.size := by rw [hls]; decide
              have hdep11 : listed.getD 11 false = true := hall ⟨11, .data⟩ (by simp) (by rfl)
              obtain rfl := c11 hdep11
              have hdep14 : listed.getD 14 false = true := hall ⟨14, .data⟩ (by simp) (by rfl)
              obtain rfl := c14 hdep14
              have hbw := hbW
              refine inv_val (w' := w) (.pointer (some ⟨w0.heap.size + 2, (2 * r + 1) * 32, none⟩)) rfl rfl (by go_simp; rw [if_pos (by omega), show (2 * (r : Int) + 1).toNat = 2 * r + 1 by omega]) ?_
              exact ⟨s44, s45, s46, s47, s48, s49, s50, s51, s52, s53, s54, (.slice (some ⟨w0.heap.size + 2, 0, none⟩) (2 * k) (2 * k)), s56, s57, (.int .i64 (2 * (r : Int) + 1)), (.pointer (some ⟨w0.heap.size + 2, (2 * r + 1) * 32, none⟩)), s60, s61, s62, s63, rfl, hbw, (fun h => c0 (bit_ne h (by decide))), (fun h => c1 (bit_ne h (by decide))), (fun h => c2 (bit_ne h (by decide))), (fun h => c3 (bit_ne h (by decide))), (fun h h2 => c4 (bit_ne h (by decide)) (bit_ne h2 (by decide))), (fun h => c5 (bit_ne h (by decide))), (fun h => c6 (bit_ne h (by decide))), (fun h => c7 (bit_ne h (by decide))), (fun h => c8 (bit_ne h (by decide))), (fun h => c9 (bit_ne h (by decide))), (fun h h2 => c10 (bit_ne h (by decide)) (bit_ne h2 (by decide))), (fun h => c11 (bit_ne h (by decide))), (fun h => c12 (bit_ne h (by decide))), (fun h => c13 (bit_ne h (by decide))), (fun h => c14 (bit_ne h (by decide))), (fun _ => rfl), (fun h => c16 (bit_ne h (by decide))), (fun h h2 => c17 (bit_ne h (by decide)) (bit_ne h2 (by decide))), (fun h => c18 (bit_ne h (by decide))), (fun h => c19 (bit_ne h (by decide)))⟩
            · obtain rfl := Option.some.inj ho
              have hsz : 16 < listed.size := by rw [hls]; decide
              have hdep15 : listed.getD 15 false = true := hall ⟨15, .data⟩ (by simp) (by rfl)
              obtain rfl := c15 hdep15
              have hbw := hbW
              refine inv_val (w' := w) (.slice (some ⟨w0.heap.size + 2, (2 * r + 1) * 32, none⟩) 32 32) rfl rfl (by kernel_rfl) ?_
              exact ⟨s44, s45, s46, s47, s48, s49, s50, s51, s52, s53, s54, s55, s56, s57, s58, (.pointer (some ⟨w0.heap.size + 2, (2 * r + 1) * 32, none⟩)), (.slice (some ⟨w0.heap.size + 2, (2 * r + 1) * 32, none⟩) 32 32), s61, s62, s63, rfl, hbw, (fun h => c0 (bit_ne h (by decide))), (fun h => c1 (bit_ne h (by decide))), (fun h => c2 (bit_ne h (by decide))), (fun h => c3 (bit_ne h (by decide))), (fun h h2 => c4 (bit_ne h (by decide)) (bit_ne h2 (by decide))), (fun h => c5 (bit_ne h (by decide))), (fun h => c6 (bit_ne h (by decide))), (fun h => c7 (bit_ne h (by decide))), (fun h => c8 (bit_ne h (by decide))), (fun h => c9 (bit_ne h (by decide))), (fun h h2 => c10 (bit_ne h (by decide)) (bit_ne h2 (by decide))), (fun h => c11 (bit_ne h (by decide))), (fun h => c12 (bit_ne h (by decide))), (fun h => c13 (bit_ne h (by decide))), (fun h => c14 (bit_ne h (by decide))), (fun h => c15 (bit_ne h (by decide))), (fun _ => rfl), (fun h h2 => c17 (bit_ne h (by decide)) (bit_ne h2 (by decide))), (fun h => c18 (bit_ne h (by decide))), (fun h => c19 (bit_ne h (by decide)))⟩
            · obtain rfl := Option.some.inj ho
              have hsz : 17 < listed.size := by rw [hls]; decide
              have hdep10 : listed.getD 10 false = true := hall ⟨10, .data⟩ (by simp) (by rfl)
              obtain ⟨sp10, cap10, rfl, o10⟩ := c10 hdep10 hi
              have hdep16 : listed.getD 16 false = true := hall ⟨16, .data⟩ (by simp) (by rfl)
              obtain rfl := c16 hdep16
              refine inv_op rfl rfl (wp8g (.tmp 54) (.tmp 60) 28 5 rfl B Tryd.underlying28 info5 _ (N (2 * r)) rfl o10 (some ⟨w0.heap.size + 2, (2 * r + 1) * 32, none⟩) 32 32 (N (2 * r + 1)) rfl (hNl _) (fun h => by cases h) (hx2 w hbW) (by first | omega | simp | (simp; omega)) (hsB hbW) ?_)
              intro sp cap w' ow hb' hgg
              have hg := Grew.of hgg
              have hbw : Below B wr w' := hbW.trans hb'
              have hown := o10
              rw [h64] at ow ⊢
              exact ⟨s44, s45, s46, s47, s48, s49, s50, s51, s52, s53, (.slice sp10 32 cap10), s55, s56, s57, s58, s59, (.slice (some ⟨w0.heap.size + 2, (2 * r + 1) * 32, none⟩) 32 32), (.slice sp 64 cap), s62, s63, rfl, hbw, (fun h => c0 (bit_ne h (by decide))), (fun h => c1 (bit_ne h (by decide))), (fun h => c2 (bit_ne h (by decide))), (fun h => c3 (bit_ne h (by decide))), (fun _ h2 => absurd hdep10 (by rw [bit_ne h2 (by decide)]; decide)), (fun h => c5 (bit_ne h (by decide))), (fun h => c6 (bit_ne h (by decide))), (fun h => c7 (bit_ne h (by decide))), (fun h => c8 (bit_ne h (by decide))), (fun h => c9 (bit_ne h (by decide))), (fun _ h2 => absurd (bit_on hsz) (by rw [h2]; decide)), (fun h => c11 (bit_ne h (by decide))), (fun h => c12 (bit_ne h (by decide))), (fun h => c13 (bit_ne h (by decide))), (fun h => c14 (bit_ne h (by decide))), (fun h => c15 (bit_ne h (by decide))), (fun h => c16 (bit_ne h (by decide))), (fun _ _ => ⟨sp, cap, rfl, ow⟩), (fun h => c18 (bit_ne h (by decide))), (fun h => c19 (bit_ne h (by decide)))⟩
            · obtain rfl := Option.some.inj ho
              have hsz : 18 < listed.size := by rw [hls]; decide
              have hdep2 : listed.getD 2 false = true := hall ⟨2, .data⟩ (by simp) (by rfl)
              obtain rfl := c2 hdep2
              have hdep3 : listed.getD 3 false = true := hall ⟨3, .data⟩ (by simp) (by rfl)
              obtain rfl := c3 hdep3
              have hdep17 : listed.getD 17 false = true := hall ⟨17, .data⟩ (by simp) (by rfl)
              obtain ⟨sp17, cap17, rfl, o17⟩ := c17 hdep17 hi
              refine inv_call 56 #[.agg (v8 nm), .int .i64 (r : Int), .int .u8 131, .slice sp17 64 cap17] _ rfl rfl (by kernel_rfl) (hab w B sp17 cap17 o17) ?_
              rintro e w' ⟨rfl, hb⟩
              have hbw : Below B wr w' := hbW.trans (hb.mono (hsB hbW))
              refine ⟨_, rfl, ?_⟩
              exact ⟨s44, s45, (.agg (v8 nm)), (.int .i64 (r : Int)), s48, s49, s50, s51, s52, s53, s54, s55, s56, s57, s58, s59, s60, (.slice sp17 64 cap17), (.agg (v8 (N r))), s63, rfl, hbw, (fun h => c0 (bit_ne h (by decide))), (fun h => c1 (bit_ne h (by decide))), (fun h => c2 (bit_ne h (by decide))), (fun h => c3 (bit_ne h (by decide))), (fun h h2 => (c4 (bit_ne h (by decide)) (bit_ne h2 (by decide))).below hb), (fun h => c5 (bit_ne h (by decide))), (fun h => c6 (bit_ne h (by decide))), (fun h => c7 (bit_ne h (by decide))), (fun h => c8 (bit_ne h (by decide))), (fun h => c9 (bit_ne h (by decide))), (fun h h2 => (c10 (bit_ne h (by decide)) (bit_ne h2 (by decide))).below hb), (fun h => c11 (bit_ne h (by decide))), (fun h => c12 (bit_ne h (by decide))), (fun h => c13 (bit_ne h (by decide))), (fun h => c14 (bit_ne h (by decide))), (fun h => c15 (bit_ne h (by decide))), (fun h => c16 (bit_ne h (by decide))), (fun _ h2 => absurd (bit_on hsz) (by rw [h2]; decide)), (fun _ => rfl), (fun h => c19 (bit_ne h (by decide)))⟩
            · obtain rfl := Option.some.inj ho
              have hsz : 19 < listed.size := by rw [hls]; decide
              have hdep0 : listed.getD 0 false = true := hall ⟨0, .data⟩ (by simp) (by rfl)
              obtain rfl := c0 hdep0
              have hdep1 : listed.getD 1 false = true := hall ⟨1, .data⟩ (by simp) (by rfl)
              obtain rfl := c1 hdep1
              have hbw := hbW
              refine inv_val (w' := w) (.pointer (some ⟨w0.heap.size + 2, r * 32, none⟩)) rfl rfl (by go_simp; intro hbad; exact absurd hbad (by omega)) ?_
              exact ⟨(.slice (some ⟨w0.heap.size + 2, 0, none⟩) (2 * k) (2 * k)), (.int .i64 (r : Int)), s46, s47, s48, s49, s50, s51, s52, s53, s54, s55, s56, s57, s58, s59, s60, s61, s62, (.pointer (some ⟨w0.heap.size + 2, r * 32, none⟩)), rfl, hbw, (fun h => c0 (bit_ne h (by decide))), (fun h => c1 (bit_ne h (by decide))), (fun h => c2 (bit_ne h (by decide))), (fun h => c3 (bit_ne h (by decide))), (fun h h2 => c4 (bit_ne h (by decide)) (bit_ne h2 (by decide))), (fun h => c5 (bit_ne h (by decide))), (fun h => c6 (bit_ne h (by decide))), (fun h => c7 (bit_ne h (by decide))), (fun h => c8 (bit_ne h (by decide))), (fun h => c9 (bit_ne h (by decide))), (fun h h2 => c10 (bit_ne h (by decide)) (bit_ne h2 (by decide))), (fun h => c11 (bit_ne h (by decide))), (fun h => c12 (bit_ne h (by decide))), (fun h => c13 (bit_ne h (by decide))), (fun h => c14 (bit_ne h (by decide))), (fun h => c15 (bit_ne h (by decide))), (fun h => c16 (bit_ne h (by decide))), (fun h h2 => c17 (bit_ne h (by decide)) (bit_ne h2 (by decide))), (fun h => c18 (bit_ne h (by decide))), (fun _ => rfl)⟩
          · intro listed a w hall hJ
            obtain ⟨s44, s45, s46, s47, s48, s49, s50, s51, s52, s53, s54, s55, s56, s57, s58, s59, s60, s61, s62, s63, rfl, hbW, c0, c1, c2, c3, c4, c5, c6, c7, c8, c9, c10, c11, c12, c13, c14, c15, c16, c17, c18, c19⟩ := hJ
            obtain rfl := c0 (hall 0 (by omega))
            obtain rfl := c1 (hall 1 (by omega))
            obtain rfl := c2 (hall 2 (by omega))
            obtain rfl := c3 (hall 3 (by omega))
            obtain rfl := c5 (hall 5 (by omega))
            obtain rfl := c6 (hall 6 (by omega))
            obtain rfl := c7 (hall 7 (by omega))
            obtain rfl := c8 (hall 8 (by omega))
            obtain rfl := c9 (hall 9 (by omega))
            obtain rfl := c11 (hall 11 (by omega))
            obtain rfl := c12 (hall 12 (by omega))
            obtain rfl := c13 (hall 13 (by omega))
            obtain rfl := c14 (hall 14 (by omega))
            obtain rfl := c15 (hall 15 (by omega))
            obtain rfl := c16 (hall 16 (by omega))
            obtain rfl := c18 (hall 18 (by omega))
            obtain rfl := c19 (hall 19 (by omega))
            simp only [List.drop_succ_cons, List.drop_zero]
            have x0 := z0.below hbW (by omega)
            have x2 := z2.below hbW (by omega)
            have xb := zb.trans (hbW.mono (by have := zb.size; omega))
            refine store_mid8 24 (.tmp 63) (.tmp 62) (by rfl) (by rfl) (by rfl) (w0.heap.size + 2) (r * 32) (N r) (by rfl) (by rfl) 24 A x2 (id_info (hNl _)) (by rw [hNl, hAl]; omega) ?_
            rw [Nat.mul_comm r 32]
            have hA2 : (spl A (32 * r) (N r)).length = 64 * k := by rw [spl_len32 (hNl _) (by omega)]; exact hAl
            have hc3 : ∀ j, r - 1 < j → j < 2 * k → cutN (spl A (32 * r) (N r)) j = N j := fun j h1 h2 => by
              by_cases e : j = r
              · subst e; exact cut_same (hNl _) (by omega)
              · rw [cut_other (hNl _) (by omega) e]; exact hcut j (by omega) h2
            generalize spl A (32 * r) (N r) = A2 at *
            have u0 := x0.setRowOther (g := w0.heap.size + 2) (by omega) (v8 A2)
            have u2 := x2.setRow (v8 A2)
            have ub := below_setRow (g := w0.heap.size + 2) xb (by omega) (v8 A2)
            generalize w.setRow (w0.heap.size + 2) (v8 A2) = w7 at u0 u2 ub ⊢
            clear x0 x2 xb z0 z2 zb hbW hcut hAl hc1 hc2 hx1 hx2 hsB hB hall
            go_wp2
            go_roundw
            case rel => exact ⟨r - 1, A2, by omega, by rw [show ((r - 1 : Nat) : Int) = (r : Int) - 1 by omega], hA2, hc3, u0, u2, ub⟩
            case measure => simp [intOf]; omega
        · obtain rfl : r = 0 := by omega
          go_wp2
          go_ret
          exact ⟨_, A, rfl, z2, hAl, fun r h1 h2 => hcut r (by omega) h2, by omega, zb⟩
end

section
open Go Go.RowKit

set_option maxRecDepth 20000 in
set_option maxHeartbeats 1000000 in
theorem sixPublic_bad (nm seed : List Int) (h : Int) (w0 : World) (hh : ¬ (1 ≤ h ∧ h ≤ 5)) :
    Calls Tryd.prog 23 #[.agg (v8 nm), .agg (v8 seed), .int .i64 h] w0 fun e w' => e = .returned (.tuple #[.slice none 0 0, .int .i64 1]) ∧ Below w0.heap.size w0 w' := by
  have b1 : Below w0.heap.size w0 (World.alloc (World.alloc w0 (.cells (v8 nm) 22)) (.cells (v8 seed) 24)) := ((Below.refl _ _).alloc (Nat.le_refl _) _).alloc (by simp) _
  by_cases h1 : h < 1
  · go_enter Tryd.func23, Tryd.ntmps23
    go_wp2
    go_ret2
    exact ⟨rfl, b1⟩
  · have h2 : h > 5 := by omega
    go_enter Tryd.func23, Tryd.ntmps23
    go_wp2
    go_ret2
    exact ⟨rfl, b1⟩
set_option maxRecDepth 20000 in
set_option maxHeartbeats 1000000 in
theorem sixPublic_any (S : List Int → List Int) (hS : Hash S) (nm seed : List Int) (h : Nat) (w0 : World) (hn : nm.length = 16) (hs : seed.length = 32) (h1 : 1 ≤ h) (h5 : h ≤ 5) :
    Calls Tryd.prog 23 #[.agg (v8 nm), .agg (v8 seed), .int .i64 (h : Int)] w0 fun e w' => ∃ sp cap, e = .returned (.tuple #[.slice sp 56 cap, .int .i64 0]) ∧ Own8 w' w0.heap.size 5 (.slice sp 56 cap) (keyL h nm (nodeN S nm seed (2 ^ h) 1)) ∧ Below w0.heap.size w0 w' := by
  have htr := fun wx => six_tree_any S hS nm seed h wx hn hs h1 h5
  have hTl := nodeN_len (fun l => hS.len l) nm seed (2 ^ h) 1
  have h2 : 2 ≤ 2 ^ h := by
    rcases (by omega : h = 1 ∨ h = 2 ∨ h = 3 ∨ h = 4 ∨ h = 5) with rfl | rfl | rfl | rfl | rfl <;> decide
  generalize 2 ^ h = n at *
  have htr2 : ∀ wx, Calls Tryd.prog 47 #[.agg (v8 nm), .agg (v8 seed), .int .i64 (h : Int)] wx fun e w' => ∃ g A, e = .returned (.slice (some ⟨g, 0, none⟩) (2 * n) (2 * n)) ∧ Row w' g 24 (v8 A) ∧ A.length = 64 * n ∧ cutN A 1 = nodeN S nm seed n 1 ∧ wx.heap.size ≤ g ∧ Below wx.heap.size wx w' := fun wx =>
    (htr wx).mono fun e w' ⟨g, A, he, a1, a2, a3, a4, a5⟩ => ⟨g, A, he, a1, a2, a3 1 (Nat.le_refl _) (by omega), a4, a5⟩
  clear htr
  generalize nodeN S nm seed n 1 = TOP at *
  have h4 : ∀ wx, Calls Tryd.prog 48 #[.slice none 0 0, .int .i64 (h : Int)] wx fun e w' => ∃ sp cap, e = .returned (.slice sp 4 cap) ∧ Own8 w' wx.heap.size 5 (.slice sp 4 cap) (n4 (h : Int)) ∧ Below wx.heap.size wx w' := fun wx =>
    (six4_any [] h (.slice none 0 0) wx wx.heap.size ⟨rfl, .inl ⟨rfl, rfl⟩⟩ (by simp) (Nat.le_refl _)).mono fun e w' ⟨sp, cap, he, a1, a2, _, _⟩ => ⟨sp, cap, he, a1, a2⟩
  have hlo : ¬ ((h : Int) < 1) := by omega
  have hhi : ¬ ((h : Int) > 5) := by omega
  go_enter Tryd.func23, Tryd.ntmps23
  go_upto_region 1 with fail
  have r0 : Row (World.alloc (World.alloc w0 (.cells (v8 nm) 22)) (.cells (v8 seed) 24)) w0.heap.size 22 (v8 nm) := (Row.new _ _ _).alloc _
  have r1 : Row (World.alloc (World.alloc w0 (.cells (v8 nm) 22)) (.cells (v8 seed) 24)) (w0.heap.size + 1) 24 (v8 seed) := Row.newAt _ _ _ _ (by simp)
  have b1 : Below w0.heap.size w0 (World.alloc (World.alloc w0 (.cells (v8 nm) 22)) (.cells (v8 seed) 24)) := ((Below.refl _ _).alloc (Nat.le_refl _) _).alloc (by simp) _
  change Code.wp _ _ _ _ ((World.alloc (World.alloc w0 (.cells (v8 nm) 22)) (.cells (v8 seed) 24)))
  generalize (World.alloc (World.alloc w0 (.cells (v8 nm) 22)) (.cells (v8 seed) 24)) = w1 at r0 r1 b1 ⊢
  go_upto_region 4 with (first | (refine wpList_load_row (by rfl) 22 (.tmp 3) (by rfl) w0.heap.size (by rfl) 22 (v8 nm) (0, 0) _ r0 Tryd.underlying22 rfl (name_info hn) ?_) | (refine wpList_load_row (by rfl) 24 (.tmp 4) (by rfl) (w0.heap.size + 1) (by rfl) 24 (v8 seed) (0, 0) _ r1 Tryd.underlying24 rfl (id_info hs) ?_) | (go_at_call 47; (with_reducible refine Calls.mono (htr2 _) ?_); rintro e w2 ⟨gT, A, rfl, zT, hAl, hc1, hgT, hb2⟩))
  have z0 := r0.below hb2 r0.lt
  have zb := b1.trans (hb2.mono b1.size)
  clear r0 r1 b1 hb2 htr2
  have hz0 := z0.lt
  have hzT := zT.lt
  have hzb := zb.size
  have hnI : (2 : Int) ≤ (n : Int) := by omega
  have h24 : (n4 (h : Int) ++ n4 2 ++ nm).length = 24 := by rw [List.length_append, hn]; rfl
  have h8l : (n4 (h : Int) ++ n4 2).length = 8 := rfl
  have h56 : ((n4 (h : Int) ++ n4 2 ++ nm) ++ TOP).length = 56 := by rw [List.length_append, h24, hTl]
  obtain ⟨B, hB⟩ : ∃ B, B = w2.heap.size := ⟨_, rfl⟩
  have hsB : ∀ {w : World}, Below B w2 w → B ≤ w.heap.size := fun h => by have := h.size; omega
  have hx1 : ∀ w, Below B w2 w → Bytes w (some ⟨gT, 32, none⟩) TOP := fun w hb => by
    have := cut_bytes (zT.below hb (by omega)) 1 (by omega)
    rwa [hc1] at this
  refine region_invFA  (by kernel_rfl) (by kernel_rfl) (fun a0 listed a w => ∃ s6 s7 s19 s20 s21 s22 s23 s24 s25 s26 s27, a = (Act.put (Act.put (Act.put (Act.put (Act.put (Act.put (Act.put (Act.put (Act.put (Act.put (Act.put a0 (some 6) s6) (some 7) s7) (some 19) s19) (some 20) s20) (some 21) s21) (some 22) s22) (some 23) s23) (some 24) s24) (some 25) s25) (some 26) s26) (some 27) s27) ∧ Below B w2 w ∧ (listed.getD 0 false = true → s19 = .int .i64 (h : Int)) ∧ (listed.getD 1 false = true → listed.getD 2 false = false → OwnS w B s20 4 (n4 (h : Int))) ∧ (listed.getD 2 false = true → listed.getD 4 false = false → OwnS w B s21 8 (n4 (h : Int) ++ n4 2)) ∧ (listed.getD 3 false = true → s22 = .slice (some ⟨w0.heap.size, 0, none⟩) 16 16) ∧ (listed.getD 4 false = true → listed.getD 8 false = false → OwnS w B s23 24 (n4 (h : Int) ++ n4 2 ++ nm)) ∧ (listed.getD 5 false = true → s24 = .slice (some ⟨gT, 0, none⟩) (2 * n) (2 * n)) ∧ (listed.getD 6 false = true → s25 = .pointer (some ⟨gT, 32, none⟩)) ∧ (listed.getD 7 false = true → s26 = .slice (some ⟨gT, 32, none⟩) 32 32) ∧ (listed.getD 8 false = true → listed.getD 9 false = false → OwnS w B s27 56 (keyL (h : Int) nm TOP)) ∧ (listed.getD 9 false = true → OwnS w B s6 56 (keyL (h : Int) nm TOP)) ∧ (listed.getD 10 false = true → s7 = .int .i64 0)) ?_ ?_ ?_
  all_goals simp only [Act.put, List.setIfInBounds_toArray, List.set_cons_succ, List.set_cons_zero]
  · exact ⟨_, _, _, _, _, _, _, _, _, _, _, rfl, (Below.refl B _).drew, (fun h => absurd h (by rw [getD_replicate_false]; decide)), (fun h => absurd h (by rw [getD_replicate_false]; decide)), (fun h => absurd h (by rw [getD_replicate_false]; decide)), (fun h => absurd h (by rw [getD_replicate_false]; decide)), (fun h => absurd h (by rw [getD_replicate_false]; decide)), (fun h => absurd h (by rw [getD_replicate_false]; decide)), (fun h => absurd h (by rw [getD_replicate_false]; decide)), (fun h => absurd h (by rw [getD_replicate_false]; decide)), (fun h => absurd h (by rw [getD_replicate_false]; decide)), (fun h => absurd h (by rw [getD_replicate_false]; decide)), (fun h => absurd h (by rw [getD_replicate_false]; decide))⟩
  · intro listed a w i o hls hJ hin ho hi hall hcl
    obtain ⟨s6, s7, s19, s20, s21, s22, s23, s24, s25, s26, s27, rfl, hbW, c0, c1, c2, c3, c4, c5, c6, c7, c8, c9, c10⟩ := hJ
    replace hin : i < 11 := hin
    rcases (by omega : i = 0 ∨ i = 1 ∨ i = 2 ∨ i = 3 ∨ i = 4 ∨ i = 5 ∨ i = 6 ∨ i = 7 ∨ i = 8 ∨ i = 9 ∨ i = 10) with rfl | rfl | rfl | rfl | rfl | rfl | rfl | rfl | rfl | rfl | rfl
    · obtain rfl := Option.some.inj ho
      have hsz : 0 < listed.size := by rw [hls]; decide
      have hbw := hbW
      refine inv_val (w' := w) (.int .i64 (h : Int)) rfl rfl rfl ?_
      exact ⟨s6, s7, (.int .i64 (h : Int)), s20, s21, s22, s23, s24, s25, s26, s27, rfl, hbw, (fun _ => rfl), (fun h h2 => c1 (bit_ne h (by decide)) (bit_ne h2 (by decide))), (fun h h2 => c2 (bit_ne h (by decide)) (bit_ne h2 (by decide))), (fun h => c3 (bit_ne h (by decide))), (fun h h2 => c4 (bit_ne h (by decide)) (bit_ne h2 (by decide))), (fun h => c5 (bit_ne h (by decide))), (fun h => c6 (bit_ne h (by decide))), (fun h => c7 (bit_ne h (by decide))), (fun h h2 => c8 (bit_ne h (by decide)) (bit_ne h2 (by decide))), (fun h => c9 (bit_ne h (by decide))), (fun h => c10 (bit_ne h (by decide)))⟩
    · obtain rfl := Option.some.inj ho
      have hsz : 1 < listed.size := by rw [hls]; decide
      have hdep0 : listed.getD 0 false = true := hall ⟨0, .data⟩ (by simp) (by rfl)
      obtain rfl := c0 hdep0
      refine inv_call 48 #[.slice none 0 0, .int .i64 (h : Int)] _ rfl rfl (by kernel_rfl) (h4 w) ?_
      rintro e w' ⟨sp, cap, rfl, ow, hb⟩
      have hbw : Below B w2 w' := hbW.trans (hb.mono (hsB hbW))
      refine ⟨_, rfl, ?_⟩
      exact ⟨s6, s7, (.int .i64 (h : Int)), (.slice sp 4 cap), s21, s22, s23, s24, s25, s26, s27, rfl, hbw, (fun h => c0 (bit_ne h (by decide))), (fun _ _ => ⟨sp, cap, rfl, ow.mono (hsB hbW)⟩), (fun h h2 => (c2 (bit_ne h (by decide)) (bit_ne h2 (by decide))).below hb), (fun h => c3 (bit_ne h (by decide))), (fun h h2 => (c4 (bit_ne h (by decide)) (bit_ne h2 (by decide))).below hb), (fun h => c5 (bit_ne h (by decide))), (fun h => c6 (bit_ne h (by decide))), (fun h => c7 (bit_ne h (by decide))), (fun h h2 => (c8 (bit_ne h (by decide)) (bit_ne h2 (by decide))).below hb), (fun h => (c9 (bit_ne h (by decide))).below hb), (fun h => c10 (bit_ne h (by decide)))⟩
    · obtain rfl := Option.some.inj ho
      have hsz : 2 < listed.size := by rw [hls]; decide
      have hdep1 : listed.getD 1 false = true := hall ⟨1, .data⟩ (by simp) (by rfl)
      obtain ⟨sp1, cap1, rfl, o1⟩ := c1 hdep1 hi
      refine inv_call 48 #[.slice sp1 4 cap1, .int .i64 2] _ rfl rfl (by kernel_rfl) (six4_any (n4 (h : Int)) 2 _ w B o1 (by rw [n4_len]; omega) (hsB hbW)) ?_
      rintro e w' ⟨sp, cap, rfl, ow, hb', hg, _⟩
      have hbw : Below B w2 w' := hbW.trans hb'
      have hown := o1
      refine ⟨_, rfl, ?_⟩
      exact ⟨s6, s7, s19, (.slice sp1 4 cap1), _, s22, s23, s24, s25, s26, s27, rfl, hbw, (fun h => c0 (bit_ne h (by decide))), (fun _ h2 => absurd (bit_on hsz) (by rw [h2]; decide)), (fun _ _ => ⟨sp, cap, rfl, ow⟩), (fun h => c3 (bit_ne h (by decide))), (fun h _ => absurd (hcl 4 _ rfl (bit_ne h (by decide)) ⟨2, .data⟩ (by simp) rfl) (by rw [hi]; decide)), (fun h => c5 (bit_ne h (by decide))), (fun h => c6 (bit_ne h (by decide))), (fun h => c7 (bit_ne h (by decide))), (fun h _ => absurd (hcl 4 _ rfl (hcl 8 _ rfl (bit_ne h (by decide)) ⟨4, .data⟩ (by simp) rfl) ⟨2, .data⟩ (by simp) rfl) (by rw [hi]; decide)), (fun h => absurd (hcl 4 _ rfl (hcl 8 _ rfl (hcl 9 _ rfl (bit_ne h (by decide)) ⟨8, .data⟩ (by simp) rfl) ⟨4, .data⟩ (by simp) rfl) ⟨2, .data⟩ (by simp) rfl) (by rw [hi]; decide)), (fun h => c10 (bit_ne h (by decide)))⟩
    · obtain rfl := Option.some.inj ho
      have hsz : 3 < listed.size := by rw [hls]; decide
      have hbw := hbW
      refine inv_val (w' := w) (.slice (some ⟨w0.heap.size, 0, none⟩) 16 16) rfl rfl (by kernel_rfl) ?_
      exact ⟨s6, s7, s19, s20, s21, (.slice (some ⟨w0.heap.size, 0, none⟩) 16 16), s23, s24, s25, s26, s27, rfl, hbw, (fun h => c0 (bit_ne h (by decide))), (fun h h2 => c1 (bit_ne h (by decide)) (bit_ne h2 (by decide))), (fun h h2 => c2 (bit_ne h (by decide)) (bit_ne h2 (by decide))), (fun _ => rfl), (fun h h2 => c4 (bit_ne h (by decide)) (bit_ne h2 (by decide))), (fun h => c5 (bit_ne h (by decide))), (fun h => c6 (bit_ne h (by decide))), (fun h => c7 (bit_ne h (by decide))), (fun h h2 => c8 (bit_ne h (by decide)) (bit_ne h2 (by decide))), (fun h => c9 (bit_ne h (by decide))), (fun h => c10 (bit_ne h (by decide)))⟩
    · obtain rfl := Option.some.inj ho
      have hsz : 4 < listed.size := by rw [hls]; decide
      have hdep2 : listed.getD 2 false = true := hall ⟨2, .data⟩ (by simp) (by rfl)
      obtain ⟨sp2, cap2, rfl, o2⟩ := c2 hdep2 hi
      have hdep3 : listed.getD 3 false = true := hall ⟨3, .data⟩ (by simp) (by rfl)
      obtain rfl := c3 hdep3
      refine inv_op rfl rfl (wp8g (.tmp 21) (.tmp 22) 28 5 rfl B Tryd.underlying28 info5 _ (n4 (h : Int) ++ n4 2) rfl o2 (some ⟨w0.heap.size, 0, none⟩) 16 16 nm rfl hn (fun h => by cases h) ((z0.below hbW (by omega)).bytes) (by first | omega | simp | (simp; omega)) (hsB hbW) ?_)
      intro sp cap w' ow hb' hgg
      have hg := Grew.of hgg
      have hbw : Below B w2 w' := hbW.trans hb'
      have hown := o2
      rw [h24] at ow ⊢
      exact ⟨s6, s7, s19, s20, (.slice sp2 8 cap2), (.slice (some ⟨w0.heap.size, 0, none⟩) 16 16), (.slice sp 24 cap), s24, s25, s26, s27, rfl, hbw, (fun h => c0 (bit_ne h (by decide))), (fun _ h2 => absurd hdep2 (by rw [bit_ne h2 (by decide)]; decide)), (fun _ h2 => absurd (bit_on hsz) (by rw [h2]; decide)), (fun h => c3 (bit_ne h (by decide))), (fun _ _ => ⟨sp, cap, rfl, ow⟩), (fun h => c5 (bit_ne h (by decide))), (fun h => c6 (bit_ne h (by decide))), (fun h => c7 (bit_ne h (by decide))), (fun h _ => absurd (hcl 8 _ rfl (bit_ne h (by decide)) ⟨4, .data⟩ (by simp) rfl) (by rw [hi]; decide)), (fun h => absurd (hcl 8 _ rfl (hcl 9 _ rfl (bit_ne h (by decide)) ⟨8, .data⟩ (by simp) rfl) ⟨4, .data⟩ (by simp) rfl) (by rw [hi]; decide)), (fun h => c10 (bit_ne h (by decide)))⟩
    · obtain rfl := Option.some.inj ho
      have hsz : 5 < listed.size := by rw [hls]; decide
      have hbw := hbW
      refine inv_val (w' := w) (.slice (some ⟨gT, 0, none⟩) (2 * n) (2 * n)) rfl rfl rfl ?_
      exact ⟨s6, s7, s19, s20, s21, s22, s23, (.slice (some ⟨gT, 0, none⟩) (2 * n) (2 * n)), s25, s26, s27, rfl, hbw, (fun h => c0 (bit_ne h (by decide))), (fun h h2 => c1 (bit_ne h (by decide)) (bit_ne h2 (by decide))), (fun h h2 => c2 (bit_ne h (by decide)) (bit_ne h2 (by decide))), (fun h => c3 (bit_ne h (by decide))), (fun h h2 => c4 (bit_ne h (by decide)) (bit_ne h2 (by decide))), (fun _ => rfl), (fun h => c6 (bit_ne h (by decide))), (fun h => c7 (bit_ne h (by decide))), (fun h h2 => c8 (bit_ne h (by decide)) (bit_ne h2 (by decide))), (fun h => c9 (bit_ne h (by decide))), (fun h => c10 (bit_ne h (by decide)))⟩
    · obtain rfl := Option.some.inj ho
      have hsz : 6 < listed.size := by rw [hls]; decide
      have hdep5 : listed.getD 5 false = true := hall ⟨5, .data⟩ (by simp) (by rfl)
      obtain rfl := c5 hdep5
      have hbw := hbW
      refine inv_val (w' := w) (.pointer (some ⟨gT, 32, none⟩)) rfl rfl (by go_simp; first | done | (intro hbad; exact absurd hbad (by omega))) ?_
      exact ⟨s6, s7, s19, s20, s21, s22, s23, (.slice (some ⟨gT, 0, none⟩) (2 * n) (2 * n)), (.pointer (some ⟨gT, 32, none⟩)), s26, s27, rfl, hbw, (fun h => c0 (bit_ne h (by decide))), (fun h h2 => c1 (bit_ne h (by decide)) (bit_ne h2 (by decide))), (fun h h2 => c2 (bit_ne h (by decide)) (bit_ne h2 (by decide))), (fun h => c3 (bit_ne h (by decide))), (fun h h2 => c4 (bit_ne h (by decide)) (bit_ne h2 (by decide))), (fun h => c5 (bit_ne h (by decide))), (fun _ => rfl), (fun h => c7 (bit_ne h (by decide))), (fun h h2 => c8 (bit_ne h (by decide)) (bit_ne h2 (by decide))), (fun h => c9 (bit_ne h (by decide))), (fun h => c10 (bit_ne h (by decide)))⟩
    · obtain rfl := Option.some.inj ho
      have hsz : 7 < listed.size := by rw [hls]; decide
      have hdep6 : listed.getD 6 false = true := hall ⟨6, .data⟩ (by simp) (by rfl)
      obtain rfl := c6 hdep6
      have hbw := hbW
      refine inv_val (w' := w) (.slice (some ⟨gT, 32, none⟩) 32 32) rfl rfl (by kernel_rfl) ?_
      exact ⟨s6, s7, s19, s20, s21, s22, s23, s24, (.pointer (some ⟨gT, 32, none⟩)), (.slice (some ⟨gT, 32, none⟩) 32 32), s27, rfl, hbw, (fun h => c0 (bit_ne h (by decide))), (fun h h2 => c1 (bit_ne h (by decide)) (bit_ne h2 (by decide))), (fun h h2 => c2 (bit_ne h (by decide)) (bit_ne h2 (by decide))), (fun h => c3 (bit_ne h (by decide))), (fun h h2 => c4 (bit_ne h (by decide)) (bit_ne h2 (by decide))), (fun h => c5 (bit_ne h (by decide))), (fun h => c6 (bit_ne h (by decide))), (fun _ => rfl), (fun h h2 => c8 (bit_ne h (by decide)) (bit_ne h2 (by decide))), (fun h => c9 (bit_ne h (by decide))), (fun h => c10 (bit_ne h (by decide)))⟩
    · obtain rfl := Option.some.inj ho
      have hsz : 8 < listed.size := by rw [hls]; decide
      have hdep4 : listed.getD 4 false = true := hall ⟨4, .data⟩ (by simp) (by rfl)
      obtain ⟨sp4, cap4, rfl, o4⟩ := c4 hdep4 hi
      have hdep7 : listed.getD 7 false = true := hall ⟨7, .data⟩ (by simp) (by rfl)
      obtain rfl := c7 hdep7
      refine inv_op rfl rfl (wp8g (.tmp 23) (.tmp 26) 28 5 rfl B Tryd.underlying28 info5 _ (n4 (h : Int) ++ n4 2 ++ nm) rfl o4 (some ⟨gT, 32, none⟩) 32 32 TOP rfl hTl (fun h => by cases h) (hx1 w hbW) (by first | omega | simp | (simp; omega)) (hsB hbW) ?_)
      intro sp cap w' ow hb' hgg
      have hg := Grew.of hgg
      have hbw : Below B w2 w' := hbW.trans hb'
      have hown := o4
      rw [h56] at ow ⊢
      exact ⟨s6, s7, s19, s20, s21, s22, (.slice sp4 24 cap4), s24, s25, (.slice (some ⟨gT, 32, none⟩) 32 32), (.slice sp 56 cap), rfl, hbw, (fun h => c0 (bit_ne h (by decide))), (fun _ h2 => absurd (hcl 4 _ rfl hdep4 ⟨2, .data⟩ (by simp) rfl) (by rw [bit_ne h2 (by decide)]; decide)), (fun _ h2 => absurd hdep4 (by rw [bit_ne h2 (by decide)]; decide)), (fun h => c3 (bit_ne h (by decide))), (fun _ h2 => absurd (bit_on hsz) (by rw [h2]; decide)), (fun h => c5 (bit_ne h (by decide))), (fun h => c6 (bit_ne h (by decide))), (fun h => c7 (bit_ne h (by decide))), (fun _ _ => ⟨sp, cap, rfl, ow⟩), (fun h => absurd (hcl 9 _ rfl (bit_ne h (by decide)) ⟨8, .data⟩ (by simp) rfl) (by rw [hi]; decide)), (fun h => c10 (bit_ne h (by decide)))⟩
    · obtain rfl := Option.some.inj ho
      have hsz : 9 < listed.size := by rw [hls]; decide
      have hdep8 : listed.getD 8 false = true := hall ⟨8, .data⟩ (by simp) (by rfl)
      obtain ⟨sp8, cap8, rfl, o8⟩ := c8 hdep8 hi
      have hbw := hbW
      refine inv_val (w' := w) (.slice sp8 56 cap8) rfl rfl rfl ?_
      exact ⟨(.slice sp8 56 cap8), s7, s19, s20, s21, s22, s23, s24, s25, s26, (.slice sp8 56 cap8), rfl, hbw, (fun h => c0 (bit_ne h (by decide))), (fun h h2 => c1 (bit_ne h (by decide)) (bit_ne h2 (by decide))), (fun h h2 => c2 (bit_ne h (by decide)) (bit_ne h2 (by decide))), (fun h => c3 (bit_ne h (by decide))), (fun h h2 => c4 (bit_ne h (by decide)) (bit_ne h2 (by decide))), (fun h => c5 (bit_ne h (by decide))), (fun h => c6 (bit_ne h (by decide))), (fun h => c7 (bit_ne h (by decide))), (fun _ h2 => absurd (bit_on hsz) (by rw [h2]; decide)), (fun _ => ⟨sp8, cap8, rfl, o8⟩), (fun h => c10 (bit_ne h (by decide)))⟩
    · obtain rfl := Option.some.inj ho
      have hsz : 10 < listed.size := by rw [hls]; decide
      have hbw := hbW
      refine inv_val (w' := w) (.int .i64 0) rfl rfl rfl ?_
      exact ⟨s6, (.int .i64 0), s19, s20, s21, s22, s23, s24, s25, s26, s27, rfl, hbw, (fun h => c0 (bit_ne h (by decide))), (fun h h2 => c1 (bit_ne h (by decide)) (bit_ne h2 (by decide))), (fun h h2 => c2 (bit_ne h (by decide)) (bit_ne h2 (by decide))), (fun h => c3 (bit_ne h (by decide))), (fun h h2 => c4 (bit_ne h (by decide)) (bit_ne h2 (by decide))), (fun h => c5 (bit_ne h (by decide))), (fun h => c6 (bit_ne h (by decide))), (fun h => c7 (bit_ne h (by decide))), (fun h h2 => c8 (bit_ne h (by decide)) (bit_ne h2 (by decide))), (fun h => c9 (bit_ne h (by decide))), (fun _ => rfl)⟩
  · intro listed a w hall hJ
    obtain ⟨s6, s7, s19, s20, s21, s22, s23, s24, s25, s26, s27, rfl, hbW, c0, c1, c2, c3, c4, c5, c6, c7, c8, c9, c10⟩ := hJ
    obtain rfl := c0 (hall 0 (by decide))
    obtain rfl := c3 (hall 3 (by decide))
    obtain rfl := c5 (hall 5 (by decide))
    obtain rfl := c6 (hall 6 (by decide))
    obtain rfl := c7 (hall 7 (by decide))
    obtain ⟨sp9, cap9, rfl, o9⟩ := c9 (hall 9 (by decide))
    obtain rfl := c10 (hall 10 (by decide))
    go_wp2
    go_ret2
    exact ⟨_, _, rfl, o9.mono (B' := w0.heap.size) (by omega), zb.trans (hbW.mono (by omega))⟩
set_option maxRecDepth 20000 in
set_option maxHeartbeats 1000000 in
theorem known6_any (S : List Int → List Int) (hS : Hash S) (w : World) (hL : Laid w) :
    Calls Tryd.prog 21 #[] w fun e w' => e = .returned (.bool true) ∧ Below w.heap.size w w' := by
  have z16 : ∀ wx, (zeroValue 22).run Tryd.prog wx = .ok (.agg (v8 (zer 16))) wx := fun wx => by kernel_rfl
  have r0 : Row (World.alloc w (.cells (v8 (zer 16)) 22)) w.heap.size 22 (v8 (zer 16)) := Row.new _ _ _
  have b0 : Below w.heap.size w (World.alloc w (.cells (v8 (zer 16)) 22)) := (Below.refl _ _).alloc (Nat.le_refl _) _
  have hbad := fun wx => lPublic_bad (zer 16) (zer 32) 6 wx (by omega)
  have hok := fun wx hl => lPublic_any S hS (zer 16) (zer 32) 1 wx hl (zer_len 16) (zer_len 32) (by omega) (by omega)
  generalize nodeN S (zer 16) (zer 32) (2 ^ 1) 1 = TOP at *
  go_enter Tryd.func21, Tryd.ntmps21
  go_wp2_with (first | (refine wpList_load_row (by rfl) 22 (.tmp 1) (by rfl) w.heap.size (by rfl) 22 (v8 (zer 16)) (0, 0) _ r0 Tryd.underlying22 rfl (by kernel_rfl) ?_) | (go_at_call_of 22 (Value.int IntKind.i64 6); refine Calls.mono (hbad _) ?_; rintro e w3 ⟨rfl, hb3⟩; have r3 := r0.below hb3 r0.lt; have b3 := b0.trans (hb3.mono (by simp))) | (refine wpList_load_row (by rfl) 22 (.tmp 1) (by rfl) w.heap.size (by rfl) 22 (v8 (zer 16)) (0, 0) _ r3 Tryd.underlying22 rfl (by kernel_rfl) ?_) | (go_at_call_of 22 (Value.int IntKind.i64 1); refine Calls.mono (hok _ (hL.below b3)) ?_; rintro e w4 ⟨sp4, cap4, rfl, o4, hb4⟩))
  go_ret
  exact ⟨rfl, b3.trans (hb4.mono b3.size)⟩
end

end Go.Proofs.YtoebnkepeledmaaDoor
