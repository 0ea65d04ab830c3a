/- The reference's start of a chain. No old memory turns. -/
import Derived.Test.YtoebnkepeledmaaDoorRefA
import Derived.Test.YtoebnkepeledmaaDoorOtsF
import Derived.Test.YtoebnkepeledmaaDoorArg
namespace Go.Proofs.YtoebnkepeledmaaDoor
open Go Go.RowKit

theorem Hash.rsum {S : List Int → List Int} (h : Hash S) (bs : List Int) (sp : Option Addr) (len cap : Nat) (w : World) (hlen : bs.length = len) (hmax : len ≤ 1099511627776) (hnil : sp = none → cap = 0 ∧ len = 0) (hby : Bytes w sp bs) :
    Calls Tryd.prog 36 #[.slice sp len cap] w fun e w' => e = .returned (.agg (v8 (S bs))) ∧ Below w.heap.size w w' := by subst h; exact ref_any bs sp len cap w hlen hmax hnil hby
theorem own_lt {w : World} {B : Nat} {e : TypeId} {v : Value} {l : List Int} (h : Own8 w B e v l) {g : Nat} (hg : w.heap.size ≤ g) : some g ≠ v.ownBlock := fun e1 => by
  obtain ⟨_, h⟩ := h
  rcases h with ⟨rfl, _⟩ | ⟨g', cap, cur, rfl, _, hh, _⟩
  · cases e1
  · cases e1
    rw [Array.getElem?_eq_none (by omega)] at hh; cases hh
theorem own_ge {w : World} {B : Nat} {e : TypeId} {v : Value} {l : List Int} (h : Own8 w B e v l) {g : Nat} (hg : g < B) : some g ≠ v.ownBlock := fun e1 => by
  obtain ⟨_, h⟩ := h
  rcases h with ⟨rfl, _⟩ | ⟨g', cap, cur, rfl, hB, _, _⟩
  · cases e1
  · have : g = g' := by simpa [Value.ownBlock] using e1
    omega
theorem own_nil {w : World} {B : Nat} {e : TypeId} {sp : Option Addr} {n cap : Nat} {l : List Int} (h : Own8 w B e (.slice sp n cap) l) (hp : 0 < l.length) : sp = none → cap = 0 ∧ n = 0 := fun h0 => by
  obtain ⟨g, cur, e1, _⟩ := h.row hp
  rw [h0] at e1; cases e1
theorem rg {w w' : World} {B g : Nat} {cs : List Value} (h : w.rangeAt g 0 cs) (hB : B = w.heap.size) (hb : Below B w w') : w'.rangeAt g 0 cs := fun j v hv => by
  have h1 := h j v hv
  have h2 := block_lt_of_cell h1
  subst hB
  rw [hb.cell (p := ⟨g, 0 + j, none⟩) h2]; exact h1
theorem setCells_row {P : Program} (w : World) (g off : Nat) (t ty : TypeId) (l cs : List Int) (hg : Row w g t (v8 l)) (hi : (P.info? ty).map (·.size) = some (v8 cs).size) (hfit : off + cs.length ≤ l.length) : w.setCells g off (v8 cs).toList = w.setRow g (v8 (spl l off cs)) := by
  have h1 := run_storeVar_row (P := P) w g off t ty (v8 l) (v8 cs) hg (by rw [v8_size, v8_size]; exact hfit) hi (v8_one _)
  have h2 := run_storeVar_mid (P := P) w g off ty (v8 cs) (fun j hj => by
    rw [v8_size] at hj
    refine ⟨?_, hg.frozen⟩
    rw [hg.cell8 (by omega)]; rfl) hi (v8_one _)
  have e : ((v8 l).toList.take off ++ (v8 cs).toList ++ (v8 l).toList.drop (off + (v8 cs).size)).toArray = v8 (spl l off cs) := by
    simp [v8, spl, List.map_take, List.map_drop]
  rw [e] at h1
  rw [h1] at h2
  injection h2 with _ h3
  exact h3.symm
theorem there_row {w : World} {g : Nat} {t : TypeId} {l : List Int} {n : Nat} (h : Row w g t (v8 l)) (hn : l.length = n) : w.there g 0 n := fun j hj => ⟨by rw [Nat.zero_add, h.cell8 (by omega)]; rfl, h.frozen⟩
theorem range_row {w : World} {g : Nat} {t : TypeId} {vs : Array Value} (h : Row w g t vs) : w.rangeAt g 0 vs.toList := fun j v hv => by
  rw [Nat.zero_add, h.cell]; simpa using hv

set_option maxRecDepth 20000 in
set_option maxHeartbeats 400000 in
theorem rsecret_any (S : List Int → List Int) (hS : Hash S) (nm seed : List Int) (q i : Int) (w : World) (hn : nm.length = 16) (hs : seed.length = 32) :
    Calls Tryd.prog 35 #[.agg (v8 nm), .int .i64 q, .int .i64 i, .agg (v8 seed)] w fun e w' => e = .returned (.agg (v8 (xL S (nm ++ n4 q) seed i))) ∧ Below w.heap.size w w' := by
  have hx : xL S (nm ++ n4 q) seed i = S (nm ++ n4 q ++ n2 i ++ [255] ++ seed) := rfl
  have hH : (nm ++ n4 q).length = 20 := by rw [List.length_append, hn, n4_len]
  rw [hx]
  clear hx
  have hSl := hS.len (nm ++ n4 q ++ n2 i ++ [255] ++ seed)
  have hX55 : (nm ++ n4 q ++ n2 i ++ [255] ++ seed).length = 55 := by rw [List.length_append, List.length_append, List.length_append, hH, hs]; rfl
  have hrs : ∀ sp cap w', (sp = none → cap = 0 ∧ 55 = 0) → Bytes w' sp (nm ++ n4 q ++ n2 i ++ [255] ++ seed) → Calls Tryd.prog 36 #[.slice sp 55 cap] w' fun e w'' => e = .returned (.agg (v8 (S (nm ++ n4 q ++ n2 i ++ [255] ++ seed)))) ∧ Below w'.heap.size w' w'' := fun sp cap w' h1 h2 => hS.rsum _ sp 55 cap w' hX55 (by omega) h1 h2
  obtain ⟨Y, hY⟩ : ∃ Y, Y = S (nm ++ n4 q ++ n2 i ++ [255] ++ seed) := ⟨_, rfl⟩
  rw [← hY] at hSl hrs ⊢
  clear hY
  obtain ⟨cs, hcs⟩ : ∃ cs : List Value, v8 Y = cs.toArray := ⟨(v8 Y).toList, by simp⟩
  have hl24 : cs.length = 32 := by have := v8_size Y; rw [hcs, hSl] at this; simpa using this
  have h124 : ∀ v ∈ cs, v.oneCell' = true := fun v hv => (Array.all_eq_true_iff_forall_mem.1 (v8_one Y)) v (by rw [hcs]; simpa using hv)
  rw [hcs] at hrs ⊢
  have z32 := zv32
  go_enter Tryd.func35, Tryd.ntmps35
  go_upto_region 1 with fail
  have r0 : Row (World.alloc (World.alloc (World.alloc w (.cells (v8 nm) 22)) (.cells (v8 seed) 24)) (.cells (v8 (zer 32)) 24)) w.heap.size 22 (v8 nm) := ((Row.new _ _ _).alloc _).alloc _
  have r1 : Row (World.alloc (World.alloc (World.alloc w (.cells (v8 nm) 22)) (.cells (v8 seed) 24)) (.cells (v8 (zer 32)) 24)) (w.heap.size + 1) 24 (v8 seed) := (Row.newAt _ _ _ _ (by simp)).alloc _
  have r2 : Row (World.alloc (World.alloc (World.alloc w (.cells (v8 nm) 22)) (.cells (v8 seed) 24)) (.cells (v8 (zer 32)) 24)) (w.heap.size + 2) 24 (v8 (zer 32)) := Row.newAt _ _ _ _ (by simp)
  have b1 : Below w.heap.size w (World.alloc (World.alloc (World.alloc w (.cells (v8 nm) 22)) (.cells (v8 seed) 24)) (.cells (v8 (zer 32)) 24)) := (((Below.refl _ _).alloc (Nat.le_refl _) _).alloc (by simp) _).alloc (by simp; omega) _
  change Code.wp _ _ _ _ ((World.alloc (World.alloc (World.alloc w (.cells (v8 nm) 22)) (.cells (v8 seed) 24)) (.cells (v8 (zer 32)) 24)))
  generalize (World.alloc (World.alloc (World.alloc w (.cells (v8 nm) 22)) (.cells (v8 seed) 24)) (.cells (v8 (zer 32)) 24)) = w1 at r0 r1 r2 b1 ⊢
  have hr2 := r2.lt
  have hu22 : Tryd.prog.underlying 22 = some (.array 16 5) := Tryd.underlying22
  have hi22 : (Tryd.prog.info? 22).map (·.size) = some (v8 nm).toList.length := by rw [Array.length_toList]; exact name_info hn
  have hl22 : (v8 nm).toList.length = 16 := by rw [Array.length_toList, v8_size, hn]
  have h122 : ∀ v ∈ (v8 nm).toList, v.oneCell' = true := fun v hv => (Array.all_eq_true_iff_forall_mem.1 (v8_one nm)) v (by simpa using hv)
  have ra0 := range_row r0
  obtain ⟨B, hB⟩ : ∃ B, B = w1.heap.size := ⟨_, rfl⟩
  have hH2 : (nm ++ n4 q ++ n2 i).length = 22 := by rw [List.length_append, hH]; rfl
  have hX23 : (nm ++ n4 q ++ n2 i ++ [255]).length = 23 := by rw [List.length_append, hH2]; rfl
  have kp : ∀ {w' : World}, Below B w1 w' → w'.rangeAt w.heap.size 0 (v8 nm).toList ∧ w'.there (w.heap.size + 1 + 1) 0 32 := fun hb => ⟨rg ra0 hB hb, there_row (r2.below hb (by omega)) (zer_len 32)⟩
  have kps : ∀ {w' : World}, Below B w1 w' → (w'.setCells (w.heap.size + 1 + 1) 0 cs).rangeAt w.heap.size 0 (v8 nm).toList ∧ (w'.setCells (w.heap.size + 1 + 1) 0 cs).there (w.heap.size + 1 + 1) 0 32 := fun hb => ⟨World.rangeAt_setCells_apart (kp hb).1 _ _ _ (Or.inl (by omega)), World.there_setCells (kp hb).2 _ _ _⟩
  have he7 : ∀ {w' : World}, Below B w1 w' → w'.setCells (w.heap.size + 1 + 1) 0 cs = w'.setRow (w.heap.size + 2) (v8 Y) := fun hb => by
    have := setCells_row (P := Tryd.prog) _ (w.heap.size + 2) 0 24 24 (zer 32) Y (r2.below hb (by omega)) (id_info hSl) (by rw [hSl, zer_len]; omega)
    rw [hcs] at this ⊢
    rw [show spl (zer 32) 0 Y = Y by unfold spl; rw [List.take_zero, List.nil_append, hSl, List.drop_of_length_le (by rw [zer_len]; omega), List.append_nil], hcs] at this
    simpa using this
  have hu24 : Tryd.prog.underlying 24 = some (.array 32 5) := Tryd.underlying24
  have hi24 : (Tryd.prog.info? 24).map (·.size) = some cs.length := by rw [hl24]; kernel_rfl
  go_region_held3 (fun w' => w'.rangeAt w.heap.size 0 (v8 nm).toList ∧ w'.there (w.heap.size + 1 + 1) 0 32) (first | exact kps c7 | exact kp c7 | exact kp c6 | exact kp c5 | exact kp (c4.alloc (by omega) _) | exact kp c4 | exact kp (c3.alloc (by omega) _) | exact kp c3 | exact kp ((Below.refl B w1).drew) | exact kp (((Below.refl B w1).drew).alloc (by show B ≤ w1.heap.size; omega) _)) (first | (go_at_call 33; (with_reducible refine Calls.mono (rhead_any nm q _ hn) ?_); rintro e w3 ⟨sp3, cap3, rfl, o3, b3⟩; (first | (have hl3 : Row w3 w1.heap.size 5 (v8 [255]) := (Row.new w1.drew 5 (v8 [255])).below b3 (by simp); have c3 : Below B w1 w3 := (((Below.refl B w1).drew).alloc (by show B ≤ w1.heap.size; omega) _).trans (b3.mono (by simp; omega)); have o3' : Own8 w3 B 5 (.slice sp3 20 cap3) (nm ++ n4 q) := o3.mono (by simp; omega); have hne : some w1.heap.size ≠ (Value.slice sp3 20 cap3).ownBlock := own_ge o3 (by simp)) | (have c3 : Below B w1 w3 := ((Below.refl B w1).drew).trans (b3.mono (by show B ≤ w1.heap.size; omega)); have o3' : Own8 w3 B 5 (.slice sp3 20 cap3) (nm ++ n4 q) := o3.mono (by show B ≤ w1.heap.size; omega))); have hs3 := c3.size; rw [← hB] at hs3) | (go_at_call 41; (with_reducible refine Calls.mono (rtwo_any (nm ++ n4 q) i (.slice sp3 20 cap3) w3 B o3' (by omega) hs3) ?_); rintro e w4 ⟨sp4, cap4, rfl, o4, b4, g4, hs4⟩; rw [hH] at o4; have c4 : Below B w1 w4 := c3.trans b4; (first | (have hlit : Bytes w4 (some ⟨w1.heap.size, 0, none⟩) [255] := (hl3.grew g4 hne).bytes) | skip)) | (go_at_call 41; (with_reducible refine Calls.mono (rtwo_any (nm ++ n4 q) i (.slice sp3 20 cap3) _ B (o3'.alloc _) (by omega) (by simp; omega)) ?_); rintro e w4 ⟨sp4, cap4, rfl, o4, b4, g4, hs4⟩; rw [hH] at o4; have c4 : Below B w1 w4 := (c3.alloc (by omega) _).trans b4; have hs4' : B ≤ w4.heap.size := (by have := c4.size; omega); have hlit2 : Bytes w4 (some ⟨w3.heap.size, 0, none⟩) [255] := ((Row.new w3 5 (v8 [255])).grew g4 (own_lt o3' (Nat.le_refl _))).bytes) | (refine step8g (.tmp 15) (.tmp 16) 28 5 ?h1 ?h2 B Tryd.underlying28 info5 (.slice sp5 23 cap5) (nm ++ n4 q ++ n2 i ++ [255]) ?h3 ?ho (some ⟨w.heap.size + 1, 0, none⟩) 32 32 seed ?h4 ?h5 ?h6 ?hby ?hlen ?hB ?_; (case h1 => rfl); (case h2 => rfl); (case h3 => rfl); (case h4 => rfl); (case h5 => exact hs); (case h6 => exact (fun h => by cases h)); (case hby => exact hseed); (case ho => exact o5); (case hlen => first | omega | (simp; omega)); (case hB => first | omega | (simp; omega)); rw [hX55]; intro sp6 cap6 w6 o6 b6 _g6; have c6 : Below B w1 w6 := c5.trans b6; have hnil6 := own_nil o6 (by rw [hX55]; omega)) | (go_at_call 36; (with_reducible refine Calls.mono (hrs sp6 cap6 w6 hnil6 o6.bytes) ?_); rintro e w7 ⟨rfl, b7⟩; have c7 : Below B w1 w7 := c6.trans (b7.mono (by have := c6.size; omega))) | (refine step8g (.tmp 13) (.tmp 14) 28 5 ?h1 ?h2 B Tryd.underlying28 info5 (.slice sp4 22 cap4) (nm ++ n4 q ++ n2 i) ?h3 ?ho (some ⟨w1.heap.size, 0, none⟩) 1 1 [255] ?h4 ?h5 ?h6 ?hby ?hlen ?hB ?_; (case h1 => rfl); (case h2 => rfl); (case h3 => rfl); (case h4 => rfl); (case h5 => exact rfl); (case h6 => exact (fun h => by cases h)); (case hby => exact hlit); (case ho => exact o4); (case hlen => first | omega | (simp; omega)); (case hB => first | omega | (simp; omega)); rw [hX23]; intro sp5 cap5 w5 o5 b5 _g5; have c5 : Below B w1 w5 := c4.trans b5; have hs5 := c5.size; have hseed : Bytes w5 (some ⟨w.heap.size + 1, 0, none⟩) seed := (r1.below c5 (by omega)).bytes) | (refine step8g (.tmp 13) (.tmp 14) 28 5 ?h1 ?h2 B Tryd.underlying28 info5 (.slice sp4 22 cap4) (nm ++ n4 q ++ n2 i) ?h3 ?ho (some ⟨w3.heap.size, 0, none⟩) 1 1 [255] ?h4 ?h5 ?h6 ?hby ?hlen ?hB ?_; (case h1 => rfl); (case h2 => rfl); (case h3 => rfl); (case h4 => rfl); (case h5 => exact rfl); (case h6 => exact (fun h => by cases h)); (case hby => exact hlit2); (case ho => exact o4); (case hlen => first | omega | (simp; omega)); (case hB => first | omega | (simp; omega)); rw [hX23]; intro sp5 cap5 w5 o5 b5 _g5; have c5 : Below B w1 w5 := c4.trans b5; have hs5 := c5.size; have hseed : Bytes w5 (some ⟨w.heap.size + 1, 0, none⟩) seed := (r1.below c5 (by omega)).bytes) | (refine step8g (.tmp 13) (.tmp 14) 28 5 ?h1 ?h2 B Tryd.underlying28 info5 (.slice sp4 22 cap4) (nm ++ n4 q ++ n2 i) ?h3 ?ho (some ⟨w4.heap.size, 0, none⟩) 1 1 [255] ?h4 ?h5 ?h6 ?hby ?hlen ?hB ?_; (case h1 => rfl); (case h2 => rfl); (case h3 => rfl); (case h4 => rfl); (case h5 => exact rfl); (case h6 => exact (fun h => by cases h)); (case hby => exact (bytes_lit w4 [255])); (case ho => exact (o4.alloc _)); (case hlen => first | omega | (simp; omega)); (case hB => first | omega | (simp; omega)); rw [hX23]; intro sp5 cap5 w5 o5 b5 _g5; have c5 : Below B w1 w5 := (c4.alloc (by omega) _).trans b5; have hs5 := c5.size; have hseed : Bytes w5 (some ⟨w.heap.size + 1, 0, none⟩) seed := (r1.below c5 (by omega)).bytes) | fail)
  all_goals
    rw [he7 c7]
    have r7 := (r2.below c7 (by omega)).setRow (v8 Y)
    have h7 := below_setRow (g := w.heap.size + 2) (b1.trans (c7.mono (by omega))) (by omega) (v8 Y)
    generalize w7.setRow (w.heap.size + 2) (v8 Y) = w8 at r7 h7 ⊢
    rw [← hcs]
    go_wp2
    exact bodyPost_ret (results_cell_row Tryd.results35 _ _ (w.heap.size + 2) 24 (v8 Y) (0, 0) _ rfl r7 Tryd.underlying24 rfl (id_info hSl)) rfl ⟨by rw [hcs], h7⟩
end Go.Proofs.YtoebnkepeledmaaDoor
