/- The reference's walk along a chain. No old memory turns. -/
import Derived.Test.YtoebnkepeledmaaDoorRefB
namespace Go.Proofs.YtoebnkepeledmaaDoor
open Go Go.RowKit

set_option maxRecDepth 20000 in
set_option maxHeartbeats 400000 in
theorem rwalk_any (S : List Int → List Int) (hS : Hash S) (nm t : List Int) (q i : Int) (a b : Nat) (w : World) (hn : nm.length = 16) (ht : t.length = 32) (hb : b ≤ 256) :
    Calls Tryd.prog 34 #[.agg (v8 nm), .int .i64 q, .int .i64 i, .int .i64 (a : Int), .int .i64 (b : Int), .agg (v8 t)] w fun e w' => e = .returned (.agg (v8 (walkL S (nm ++ n4 q) i a (b - a) t))) ∧ Below w.heap.size w w' := by
  have hH : (nm ++ n4 q).length = 20 := by rw [List.length_append, hn, n4_len]
  have hlen := walkL_len (fun l => hS.len l) (nm ++ n4 q) i a t ht
  have hstep : ∀ k, walkL S (nm ++ n4 q) i a (k + 1) t = S (nm ++ n4 q ++ n2 i ++ [((a : Int) + (k : Int))] ++ walkL S (nm ++ n4 q) i a k t) := fun k => by
    simp only [walkL, stepL]; rw [Int.natCast_add]
  have hT0 : walkL S (nm ++ n4 q) i a 0 t = t := rfl
  have hst' : Hid (∀ k, walkL S (nm ++ n4 q) i a (k + 1) t = S (nm ++ n4 q ++ n2 i ++ [((a : Int) + (k : Int))] ++ walkL S (nm ++ n4 q) i a k t)) := hstep
  clear hstep
  generalize walkL S (nm ++ n4 q) i a = T at *
  have z32 := zv32
  go_enter Tryd.func34, Tryd.ntmps34
  go_upto_region 1 with fail
  have r0 : Row (World.alloc (World.alloc (World.alloc w (.cells (v8 nm) 22)) (.cells (v8 t) 24)) (.cells (v8 (zer 32)) 24)) w.heap.size 22 (v8 nm) := ((Row.new _ _ _).alloc _).alloc _
  have r1 : Row (World.alloc (World.alloc (World.alloc w (.cells (v8 nm) 22)) (.cells (v8 t) 24)) (.cells (v8 (zer 32)) 24)) (w.heap.size + 1) 24 (v8 t) := (Row.newAt _ _ _ _ (by simp)).alloc _
  have r2 : Row (World.alloc (World.alloc (World.alloc w (.cells (v8 nm) 22)) (.cells (v8 t) 24)) (.cells (v8 (zer 32)) 24)) (w.heap.size + 2) 24 (v8 (zer 32)) := Row.newAt _ _ _ _ (by simp)
  have b1 : Below w.heap.size w (World.alloc (World.alloc (World.alloc w (.cells (v8 nm) 22)) (.cells (v8 t) 24)) (.cells (v8 (zer 32)) 24)) := (((Below.refl _ _).alloc (Nat.le_refl _) _).alloc (by simp) _).alloc (by simp; omega) _
  change Code.wp _ _ _ _ ((World.alloc (World.alloc (World.alloc w (.cells (v8 nm) 22)) (.cells (v8 t) 24)) (.cells (v8 (zer 32)) 24)))
  generalize (World.alloc (World.alloc (World.alloc w (.cells (v8 nm) 22)) (.cells (v8 t) 24)) (.cells (v8 (zer 32)) 24)) = w1 at r0 r1 r2 b1 ⊢
  clear z32
  go_wp2
  go_loopw [13] (fun v wr => ∃ k : Nat, (k = 0 ∨ a + k ≤ b) ∧ v = .int .i64 ((a : Int) + (k : Int)) ∧ Row wr w.heap.size 22 (v8 nm) ∧ Row wr (w.heap.size + 1) 24 (v8 (T k t)) ∧ Row wr (w.heap.size + 2) 24 (v8 (zer 32)) ∧ Below w.heap.size w wr) (fun v _ => b - (intOf v).toNat)
  case atStart => exact ⟨0, Or.inl rfl, by simp, r0, by rw [hT0]; exact r1, r2, b1⟩
  case round =>
    clear r0 r1 r2 b1
    obtain ⟨k, hk, rfl, q0, q1, q2, qb⟩ := hrel
    have hq2 := q2.lt
    by_cases hlt : a + k < b
    · have d1 : decide ((a : Int) + (k : Int) < (b : Int)) = true := by simp; omega
      have d2 : (a : Int) + (k : Int) < (b : Int) := by omega
      have hTk := hlen k
      have hwj : IntKind.u8.wrap ((a : Int) + (k : Int)) = ((a : Int) + (k : Int)) := by rw [IntKind.wrap_u8]; omega
      have hnx : T (k + 1) t = S (nm ++ n4 q ++ n2 i ++ [(IntKind.u8.wrap ((a : Int) + (k : Int)))] ++ T k t) := by rw [hwj]; exact hst'.out k
      clear hwj
      have hSl := hS.len (nm ++ n4 q ++ n2 i ++ [(IntKind.u8.wrap ((a : Int) + (k : Int)))] ++ (T k t))
      have hX55 : (nm ++ n4 q ++ n2 i ++ [(IntKind.u8.wrap ((a : Int) + (k : Int)))] ++ (T k t)).length = 55 := by rw [List.length_append, List.length_append, List.length_append, hH, hTk]; rfl
      have hrs : ∀ sp cap w', (sp = none → cap = 0 ∧ 55 = 0) → Bytes w' sp (nm ++ n4 q ++ n2 i ++ [(IntKind.u8.wrap ((a : Int) + (k : Int)))] ++ (T k t)) → Calls Tryd.prog 36 #[.slice sp 55 cap] w' fun e w'' => e = .returned (.agg (v8 (S (nm ++ n4 q ++ n2 i ++ [(IntKind.u8.wrap ((a : Int) + (k : Int)))] ++ (T k t))))) ∧ Below w'.heap.size w' w'' := fun sp cap w' h1 h2 => hS.rsum _ sp 55 cap w' hX55 (by omega) h1 h2
      rw [← hnx] at hSl hrs
      obtain ⟨Y, hY⟩ : ∃ Y, Y = T (k + 1) t := ⟨_, rfl⟩
      rw [← hY] at hSl hrs
      have hY' : Hid (Y = T (k + 1) t) := hY
      clear hY hnx
      obtain ⟨cs, hcs⟩ : ∃ cs : List Value, v8 Y = cs.toArray := ⟨(v8 Y).toList, by simp⟩
      have hl24 : cs.length = 32 := by have := v8_size Y; rw [hcs, hSl] at this; simpa using this
      have h124 : ∀ v ∈ cs, v.oneCell' = true := fun v hv => (Array.all_eq_true_iff_forall_mem.1 (v8_one Y)) v (by rw [hcs]; simpa using hv)
      rw [hcs] at hrs
      generalize hTT : T k t = TK at *
      have hTT' : Hid (T k t = TK) := hTT
      clear hTT
      go_upto_region 4 with fail
      have hu22 : Tryd.prog.underlying 22 = some (.array 16 5) := Tryd.underlying22
      have hi22 : (Tryd.prog.info? 22).map (·.size) = some (v8 nm).toList.length := by rw [Array.length_toList]; exact name_info hn
      have hl22 : (v8 nm).toList.length = 16 := by rw [Array.length_toList, v8_size, hn]
      have h122 : ∀ v ∈ (v8 nm).toList, v.oneCell' = true := fun v hv => (Array.all_eq_true_iff_forall_mem.1 (v8_one nm)) v (by simpa using hv)
      have ra0 := range_row q0
      obtain ⟨B, hB⟩ : ∃ B, B = wr.heap.size := ⟨_, rfl⟩
      have hH2 : (nm ++ n4 q ++ n2 i).length = 22 := by rw [List.length_append, hH]; rfl
      have hX23 : (nm ++ n4 q ++ n2 i ++ [(IntKind.u8.wrap ((a : Int) + (k : Int)))]).length = 23 := by rw [List.length_append, hH2]; rfl
      have kp : ∀ {w' : World}, Below B wr w' → w'.rangeAt w.heap.size 0 (v8 nm).toList ∧ w'.there (w.heap.size + 1) 0 32 := fun hb => ⟨rg ra0 hB hb, there_row (q1.below hb (by omega)) hTk⟩
      have kps : ∀ {w' : World}, Below B wr w' → (w'.setCells (w.heap.size + 1) 0 cs).rangeAt w.heap.size 0 (v8 nm).toList ∧ (w'.setCells (w.heap.size + 1) 0 cs).there (w.heap.size + 1) 0 32 := fun hb => ⟨World.rangeAt_setCells_apart (kp hb).1 _ _ _ (Or.inl (by omega)), World.there_setCells (kp hb).2 _ _ _⟩
      have he7 : ∀ {w' : World}, Below B wr w' → w'.setCells (w.heap.size + 1) 0 cs = w'.setRow (w.heap.size + 1) (v8 Y) := fun hb => by
        have := setCells_row (P := Tryd.prog) _ (w.heap.size + 1) 0 24 24 TK Y (q1.below hb (by omega)) (id_info hSl) (by rw [hSl, hTk]; omega)
        rw [hcs] at this ⊢
        rw [show spl TK 0 Y = Y by unfold spl; rw [List.take_zero, List.nil_append, hSl, List.drop_of_length_le (by rw [hTk]; omega), List.append_nil], hcs] at this
        simpa using this
      have hu24 : Tryd.prog.underlying 24 = some (.array 32 5) := Tryd.underlying24
      have hi24 : (Tryd.prog.info? 24).map (·.size) = some cs.length := by rw [hl24]; kernel_rfl
      go_region_held3 (fun w' => w'.rangeAt w.heap.size 0 (v8 nm).toList ∧ w'.there (w.heap.size + 1) 0 32) (first | exact kps c7 | exact kp c7 | exact kp c6 | exact kp c5 | exact kp (c4.alloc (by omega) _) | exact kp c4 | exact kp (c3.alloc (by omega) _) | exact kp c3 | exact kp ((Below.refl B wr).drew) | exact kp (((Below.refl B wr).drew).alloc (by show B ≤ wr.heap.size; omega) _)) (first | (go_at_call 33; (with_reducible refine Calls.mono (rhead_any nm q _ hn) ?_); rintro e w3 ⟨sp3, cap3, rfl, o3, b3⟩; (first | (have hl3 : Row w3 wr.heap.size 5 (v8 [(IntKind.u8.wrap ((a : Int) + (k : Int)))]) := (Row.new wr.drew 5 (v8 [(IntKind.u8.wrap ((a : Int) + (k : Int)))])).below b3 (by simp); have c3 : Below B wr w3 := (((Below.refl B wr).drew).alloc (by show B ≤ wr.heap.size; omega) _).trans (b3.mono (by simp; omega)); have o3' : Own8 w3 B 5 (.slice sp3 20 cap3) (nm ++ n4 q) := o3.mono (by simp; omega); have hne : some wr.heap.size ≠ (Value.slice sp3 20 cap3).ownBlock := own_ge o3 (by simp)) | (have c3 : Below B wr w3 := ((Below.refl B wr).drew).trans (b3.mono (by show B ≤ wr.heap.size; omega)); have o3' : Own8 w3 B 5 (.slice sp3 20 cap3) (nm ++ n4 q) := o3.mono (by show B ≤ wr.heap.size; omega))); have hs3 := c3.size; rw [← hB] at hs3) | (go_at_call 41; (with_reducible refine Calls.mono (rtwo_any (nm ++ n4 q) i (.slice sp3 20 cap3) w3 B o3' (by omega) hs3) ?_); rintro e w4 ⟨sp4, cap4, rfl, o4, b4, g4, hs4⟩; rw [hH] at o4; have c4 : Below B wr w4 := c3.trans b4; (first | (have hlit : Bytes w4 (some ⟨wr.heap.size, 0, none⟩) [(IntKind.u8.wrap ((a : Int) + (k : Int)))] := (hl3.grew g4 hne).bytes) | skip)) | (go_at_call 41; (with_reducible refine Calls.mono (rtwo_any (nm ++ n4 q) i (.slice sp3 20 cap3) _ B (o3'.alloc _) (by omega) (by simp; omega)) ?_); rintro e w4 ⟨sp4, cap4, rfl, o4, b4, g4, hs4⟩; rw [hH] at o4; have c4 : Below B wr w4 := (c3.alloc (by omega) _).trans b4; have hs4' : B ≤ w4.heap.size := (by have := c4.size; omega); have hlit2 : Bytes w4 (some ⟨w3.heap.size, 0, none⟩) [(IntKind.u8.wrap ((a : Int) + (k : Int)))] := ((Row.new w3 5 (v8 [(IntKind.u8.wrap ((a : Int) + (k : Int)))])).grew g4 (own_lt o3' (Nat.le_refl _))).bytes) | (refine step8g (.tmp 28) (.tmp 29) 28 5 ?h1 ?h2 B Tryd.underlying28 info5 (.slice sp5 23 cap5) (nm ++ n4 q ++ n2 i ++ [(IntKind.u8.wrap ((a : Int) + (k : Int)))]) ?h3 ?ho (some ⟨w.heap.size + 1, 0, none⟩) 32 32 TK ?h4 ?h5 ?h6 ?hby ?hlen ?hB ?_; (case h1 => rfl); (case h2 => rfl); (case h3 => rfl); (case h4 => rfl); (case h5 => exact hTk); (case h6 => exact (fun h => by cases h)); (case hby => exact hseed); (case ho => exact o5); (case hlen => first | omega | (simp; omega)); (case hB => first | omega | (simp; omega)); rw [hX55]; intro sp6 cap6 w6 o6 b6 _g6; have c6 : Below B wr w6 := c5.trans b6; have hnil6 := own_nil o6 (by rw [hX55]; omega)) | (go_at_call 36; (with_reducible refine Calls.mono (hrs sp6 cap6 w6 hnil6 o6.bytes) ?_); rintro e w7 ⟨rfl, b7⟩; have c7 : Below B wr w7 := c6.trans (b7.mono (by have := c6.size; omega))) | (refine step8g (.tmp 24) (.tmp 27) 28 5 ?h1 ?h2 B Tryd.underlying28 info5 (.slice sp4 22 cap4) (nm ++ n4 q ++ n2 i) ?h3 ?ho (some ⟨wr.heap.size, 0, none⟩) 1 1 [(IntKind.u8.wrap ((a : Int) + (k : Int)))] ?h4 ?h5 ?h6 ?hby ?hlen ?hB ?_; (case h1 => rfl); (case h2 => rfl); (case h3 => rfl); (case h4 => rfl); (case h5 => exact rfl); (case h6 => exact (fun h => by cases h)); (case hby => exact hlit); (case ho => exact o4); (case hlen => first | omega | (simp; omega)); (case hB => first | omega | (simp; omega)); rw [hX23]; intro sp5 cap5 w5 o5 b5 _g5; have c5 : Below B wr w5 := c4.trans b5; have hs5 := c5.size; have hseed : Bytes w5 (some ⟨w.heap.size + 1, 0, none⟩) TK := (q1.below c5 (by omega)).bytes) | (refine step8g (.tmp 24) (.tmp 27) 28 5 ?h1 ?h2 B Tryd.underlying28 info5 (.slice sp4 22 cap4) (nm ++ n4 q ++ n2 i) ?h3 ?ho (some ⟨w3.heap.size, 0, none⟩) 1 1 [(IntKind.u8.wrap ((a : Int) + (k : Int)))] ?h4 ?h5 ?h6 ?hby ?hlen ?hB ?_; (case h1 => rfl); (case h2 => rfl); (case h3 => rfl); (case h4 => rfl); (case h5 => exact rfl); (case h6 => exact (fun h => by cases h)); (case hby => exact hlit2); (case ho => exact o4); (case hlen => first | omega | (simp; omega)); (case hB => first | omega | (simp; omega)); rw [hX23]; intro sp5 cap5 w5 o5 b5 _g5; have c5 : Below B wr w5 := c4.trans b5; have hs5 := c5.size; have hseed : Bytes w5 (some ⟨w.heap.size + 1, 0, none⟩) TK := (q1.below c5 (by omega)).bytes) | (refine step8g (.tmp 24) (.tmp 27) 28 5 ?h1 ?h2 B Tryd.underlying28 info5 (.slice sp4 22 cap4) (nm ++ n4 q ++ n2 i) ?h3 ?ho (some ⟨w4.heap.size, 0, none⟩) 1 1 [(IntKind.u8.wrap ((a : Int) + (k : Int)))] ?h4 ?h5 ?h6 ?hby ?hlen ?hB ?_; (case h1 => rfl); (case h2 => rfl); (case h3 => rfl); (case h4 => rfl); (case h5 => exact rfl); (case h6 => exact (fun h => by cases h)); (case hby => exact (bytes_lit w4 [(IntKind.u8.wrap ((a : Int) + (k : Int)))])); (case ho => exact (o4.alloc _)); (case hlen => first | omega | (simp; omega)); (case hB => first | omega | (simp; omega)); rw [hX23]; intro sp5 cap5 w5 o5 b5 _g5; have c5 : Below B wr w5 := (c4.alloc (by omega) _).trans b5; have hs5 := c5.size; have hseed : Bytes w5 (some ⟨w.heap.size + 1, 0, none⟩) TK := (q1.below c5 (by omega)).bytes) | fail)
      all_goals
        rw [he7 c7]
        have s0 := (q0.below c7 (by omega)).setRowOther (g := w.heap.size + 1) (by omega) (v8 Y)
        have s1 := (q1.below c7 (by omega)).setRow (v8 Y)
        have s2 := (q2.below c7 (by omega)).setRowOther (g := w.heap.size + 1) (by omega) (v8 Y)
        have sb := below_setRow (g := w.heap.size + 1) (qb.trans (c7.mono (by have := qb.size; omega))) (by omega) (v8 Y)
        generalize w7.setRow (w.heap.size + 1) (v8 Y) = w8 at s0 s1 s2 sb ⊢
        go_wp2
        go_roundw
        case rel => exact ⟨k + 1, Or.inr (by omega), by go_num, s0, by rw [← hY'.out]; exact s1, s2, sb⟩
        case measure => simp [intOf]; omega
    · have d1 : decide ((a : Int) + (k : Int) < (b : Int)) = false := by simp; omega
      have d2 : ¬ (a : Int) + (k : Int) < (b : Int) := by omega
      have hkk : b - a = k := by omega
      have hl1 := hlen k
      go_wp2_with (first | (refine wpList_load_row (by rfl) 24 (.tmp 11) (by rfl) (w.heap.size + 1) (by rfl) 24 (v8 (T k t)) (0, 0) _ q1 Tryd.underlying24 rfl (id_info hl1) ?_) | (refine store_row0 24 (.tmp 12) (.tmp 32) (by rfl) (by rfl) (by rfl) (w.heap.size + 2) (v8 (T k t)) (by rfl) (by rfl) 24 _ q2 (id_info hl1) (by rw [v8_size, v8_size, hl1, zer_len]) (v8_one _) ?_))
      exact bodyPost_ret (results_cell_row Tryd.results34 _ _ (w.heap.size + 2) 24 (v8 (T k t)) (0, 0) _ rfl (q2.setRow _) Tryd.underlying24 rfl (id_info hl1)) rfl ⟨rfl, below_setRow qb (by omega) _⟩
end Go.Proofs.YtoebnkepeledmaaDoor
