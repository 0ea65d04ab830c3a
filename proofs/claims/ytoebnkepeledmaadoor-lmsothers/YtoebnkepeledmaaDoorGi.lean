/- The key of the reference of ots; claims on slots. -/
import Derived.Test.YtoebnkepeledmaaDoorGh
import Derived.Test.YtoebnkepeledmaaDoorGg
import Derived.Test.YtoebnkepeledmaaDoorGa
import Derived.Laws.StructEq
import Derived.Laws.BytesArg
import Derived.Laws.Strings
namespace Go.Proofs.YtoebnkepeledmaaDoor

section
open Go Go.RowKit

theorem Own8.setOther {w : World} {B : Nat} {e : TypeId} {v : Value} {l : List Int} (h : Own8 w B e v l) {a : Addr} (ha : some a.block ≠ v.ownBlock) (u : Value) : Own8 (w.setCell a u) B e v l := by
  obtain ⟨hl, h⟩ := h
  refine ⟨hl, ?_⟩
  rcases h with h | ⟨g, cap, cur, hv, hg, hh, r⟩
  · exact .inl h
  · refine .inr ⟨g, cap, cur, hv, hg, ?_, r⟩
    rw [heap_setCell_other w a g u (fun e1 => ha (by rw [hv, ← e1]; rfl))]
    exact hh

set_option maxRecDepth 20000 in
set_option maxHeartbeats 300000 in
theorem rdigits_any (S : List Int → List Int) (hS : Hash S) (nm c msg : List Int) (q : Int) (cp mp : Option Addr) (cl cc ml mc : Nat) (w : World) (hn : nm.length = 16)
    (hcl : c.length = cl) (hcn : cp = none → cc = 0 ∧ cl = 0) (hcb : Bytes w cp c) (hcm : cl ≤ 1000) (hml : msg.length = ml) (hmn : mp = none → mc = 0 ∧ ml = 0) (hmb : Bytes w mp msg) (hmm : ml ≤ 1000000) :
    Calls Tryd.prog 42 #[.agg (v8 nm), .int .i64 q, .slice cp cl cc, .slice mp ml mc] w fun e w' => e = .returned (.agg (v64 (digsL (textL S (nm ++ n4 q) c msg)))) ∧ Below w.heap.size w w' := by
  have hH : (nm ++ n4 q).length = 20 := by rw [List.length_append, hn, n4_len]
  have hx : textL S (nm ++ n4 q) c msg = S (nm ++ n4 q ++ [129, 129] ++ c ++ msg) := rfl
  rw [hx]
  clear hx
  have hL22 : (nm ++ n4 q ++ [129, 129]).length = 22 := by rw [List.length_append, hH]; rfl
  have hL22c : (nm ++ n4 q ++ [129, 129] ++ c).length = 22 + cl := by rw [List.length_append, hL22, hcl]
  have hXl : (nm ++ n4 q ++ [129, 129] ++ c ++ msg).length = 22 + cl + ml := by rw [List.length_append, hL22c, hml]
  have hSl := hS.len (nm ++ n4 q ++ [129, 129] ++ c ++ msg)
  have hS8 := hS.in8 (nm ++ n4 q ++ [129, 129] ++ c ++ msg)
  have hrs : ∀ sp cap w', (sp = none → cap = 0 ∧ 22 + cl + ml = 0) → Bytes w' sp (nm ++ n4 q ++ [129, 129] ++ c ++ msg) → Calls Tryd.prog 36 #[.slice sp (22 + cl + ml) cap] w' fun e w'' => e = .returned (.agg (v8 (S (nm ++ n4 q ++ [129, 129] ++ c ++ msg)))) ∧ Below w'.heap.size w' w'' := fun sp cap w' h1 h2 => hS.rsum _ sp _ cap w' hXl (by omega) h1 h2
  generalize hQ : S (nm ++ n4 q ++ [129, 129] ++ c ++ msg) = Q at *
  clear hQ
  have hzv : ∀ wx, (zeroValue 69).run Tryd.prog wx = .ok (.agg (v64 (zer 133))) wx := fun wx => by kernel_rfl
  have z32 := zv32
  go_enter Tryd.func42, Tryd.ntmps42
  go_upto_region 1 with fail
  have r0 : Row (World.alloc (World.alloc w (.cells (v8 nm) 22)) (.cells (v64 (zer 133)) 69)) w.heap.size 22 (v8 nm) := (Row.new _ _ _).alloc _
  have r1 : Row (World.alloc (World.alloc w (.cells (v8 nm) 22)) (.cells (v64 (zer 133)) 69)) (w.heap.size + 1) 69 (v64 (zer 133)) := Row.newAt _ _ _ _ (by simp)
  have b1 : Below w.heap.size w (World.alloc (World.alloc w (.cells (v8 nm) 22)) (.cells (v64 (zer 133)) 69)) := ((Below.refl _ _).alloc (Nat.le_refl _) _).alloc (by simp) _
  change Code.wp _ _ _ _ ((World.alloc (World.alloc w (.cells (v8 nm) 22)) (.cells (v64 (zer 133)) 69)))
  generalize (World.alloc (World.alloc w (.cells (v8 nm) 22)) (.cells (v64 (zer 133)) 69)) = w1 at r0 r1 b1 ⊢
  have hr1 := r1.lt
  obtain ⟨B, hB⟩ : ∃ B, B = w1.heap.size := ⟨_, rfl⟩
  have hBr : w.heap.size + 1 < B := by omega
  have cbk : ∀ w', Below B w1 w' → Bytes w' cp c := by rw [hB]; exact fun w' hb => (hcb.below b1).below hb
  have mbk : ∀ w', Below B w1 w' → Bytes w' mp msg := by rw [hB]; exact fun w' hb => (hmb.below b1).below hb
  go_upto_region 2 with (first |  (refine wpList_load_row (by rfl) 22 (.tmp 4) (by rfl) w.heap.size (by rfl) 22 (v8 nm) (0, 0) _ r0 Tryd.underlying22 rfl (name_info hn) ?_) | (go_at_call 33; (with_reducible refine Calls.mono (rhead_any nm q _ hn) ?_); rintro e w3 ⟨sp3, cap3, rfl, o3, b3⟩; rw [← hB] at o3 b3; have hs3 := b3.size; rw [← hB] at hs3) | (at_builtin; (refine append8g (.tmp 17) (.tmp 18) 28 5 (by rfl) (by rfl) B Tryd.underlying28 info5 (.slice sp3 20 cap3) (nm ++ n4 q) (by rfl) ?ho (some ⟨w3.heap.size, 0, none⟩) 2 2 [129, 129] (by rfl) rfl ?hnil ?hby ?hlen ?hB ?_; (case ho => exact (o3.alloc _)); (case hnil => exact (fun h => by cases h)); (case hby => exact (bytes_lit w3 [129, 129])); (case hlen => first | omega | (simp; omega) | simp); (case hB => first | omega | (simp; omega) | simp); rw [hL22]; intro sp4 cap4 w4 o4 b4 _g4; have hs4 := b4.size; have c4 : Below B w1 w4 := (b3.alloc (by omega) _).trans b4; have cb4 : Bytes w4 cp c := cbk _ c4; have hsB4 : B ≤ w4.heap.size := (by have := c4.size; omega))) | (at_builtin; (refine append8g (.tmp 19) (.tmp 20) 28 5 (by rfl) (by rfl) B Tryd.underlying28 info5 (.slice sp4 22 cap4) (nm ++ n4 q ++ [129, 129]) (by rfl) ?ho cp cl cc c (by rfl) hcl ?hnil ?hby ?hlen ?hB ?_; (case ho => exact o4); (case hnil => exact hcn); (case hby => exact cb4); (case hlen => first | omega | (simp; omega) | simp); (case hB => first | omega | (simp; omega) | simp); rw [hL22c]; intro sp5 cap5 w5 o5 b5 _g5; have hs5 := b5.size; have c5 : Below B w1 w5 := c4.trans b5; have mb5 : Bytes w5 mp msg := mbk _ c5; have hsB5 : B ≤ w5.heap.size := (by have := c5.size; omega))) | (at_builtin; (refine append8g (.tmp 21) (.tmp 22) 28 5 (by rfl) (by rfl) B Tryd.underlying28 info5 (.slice sp5 (22 + cl) cap5) (nm ++ n4 q ++ [129, 129] ++ c) (by rfl) ?ho mp ml mc msg (by rfl) hml ?hnil ?hby ?hlen ?hB ?_; (case ho => exact o5); (case hnil => exact hmn); (case hby => exact mb5); (case hlen => first | omega | (simp; omega) | simp); (case hB => first | omega | (simp; omega) | simp); rw [hXl]; intro sp6 cap6 w6 o6 b6 _g6; have hs6 := b6.size; have c6 : Below B w1 w6 := c5.trans b6; have hnil6 := own_nil o6 (by rw [hXl]; omega))) | (go_at_call 36; (with_reducible refine Calls.mono (hrs sp6 cap6 w6 hnil6 o6.bytes) ?_); rintro e w7 ⟨rfl, b7⟩; have c7 : Below B w1 w7 := c6.trans (b7.mono (by have := c6.size; omega))) | (refine store_row0 24 (.tmp 9) (.tmp 24) (by rfl) (by rfl) (by rfl) w7.heap.size (v8 Q) (by rfl) (by rfl) 24 (v8 (zer 32)) (Row.new w7 24 _) (id_info hSl) (by rw [v8_size, v8_size, hSl, zer_len]) (v8_one _) ?_))
  have hs7 := c7.size
  have p1 := ((r1.below c7 hBr).alloc (.cells (v8 (zer 32)) 24)).setRowOther (g := w7.heap.size) (by omega) (v8 Q)
  have p2 := (Row.new w7 24 (v8 (zer 32))).setRow (v8 Q)
  have pb : Below w.heap.size w ((w7.alloc (.cells (v8 (zer 32)) 24)).setRow w7.heap.size (v8 Q)) := below_setRow ((b1.trans (c7.mono (by omega))).alloc (by omega) _) (by omega) _
  obtain ⟨gq, hgq⟩ : ∃ gq, gq = w7.heap.size := ⟨_, rfl⟩
  have hgB : w.heap.size + 1 < gq := by omega
  change Code.wp _ _ _ _ ((w7.alloc (.cells (v8 (zer 32)) 24)).setRow w7.heap.size (v8 Q))
  rw [← hgq] at p1 p2 pb ⊢
  generalize (w7.alloc (.cells (v8 (zer 32)) 24)).setRow gq (v8 Q) = w8 at p1 p2 pb ⊢
  clear hgq r0 r1 b1 o3 b3 o4 b4 o5 b5 o6 b6 c4 c5 c6 c7 b7 cb4 mb5 hs3 hs4 hs5 hs6 hs7 hnil6 hrs
  have hp2 := p2.lt
  obtain ⟨C, hC⟩ : ∃ C, C = w8.heap.size := ⟨_, rfl⟩
  have hCg : gq < C := by omega
  have own0 := own8_lit w8 C (by omega)
  have q2by : Bytes (w8.alloc (.cells #[] 5)) (some ⟨gq, 0, none⟩) Q := (p2.alloc _).bytes
  go_wp2_with (at_builtin; (refine append8g (.tmp 25) (.tmp 26) 28 5 (by rfl) (by rfl) C Tryd.underlying28 info5 (.slice (some ⟨w8.heap.size, 0, none⟩) 0 0) [] (by rfl) ?ho (some ⟨gq, 0, none⟩) 32 32 Q (by rfl) hSl ?hnil ?hby ?hlen ?hB ?_; (case ho => exact own0); (case hnil => exact (fun h => by cases h)); (case hby => exact q2by); (case hlen => first | omega | (simp; omega) | simp); (case hB => first | omega | (simp; omega) | simp); rw [List.nil_append, hSl]; intro sp9 cap9 w9 o9 b9 _g9; have hs9 := b9.size))
  have c9 : Below C w8 w9 := ((Below.refl C w8).alloc (by omega) _).trans b9
  have a1 := p1.below c9 (by omega)
  have ab : Below w.heap.size w w9 := pb.trans (c9.mono (by have := pb.size; omega))
  have hs9' : C ≤ w9.heap.size := by have := c9.size; omega
  clear own0 q2by b9 hs9 p1 p2 pb c9 _g9
  go_loopw [11, 12] (fun s v wr => ∃ k : Nat, k ≤ 128 ∧ s = .int .i64 (sumN Q k) ∧ v = .int .i64 (k : Int) ∧ wr = w9) (fun _ v _ => 128 - (intOf v).toNat)
  case atStart => exact ⟨0, by omega, rfl, rfl, rfl⟩
  case round =>
    obtain ⟨k, hk, rfl, rfl, rfl⟩ := hrel
    have hs := sumN_range Q k
    by_cases hlt : k < 128
    · have hd := rdigit_any Q sp9 32 cap9 k wr hSl (by omega) (by omega) hS8 o9.bytes
      have hdr := digN_range Q k
      have hnx : sumN Q k + (3 - digN Q k) = sumN Q (k + 1) := rfl
      have hnx2 : sumN Q k + 3 - digN Q k = sumN Q (k + 1) := by omega
      go_wp2_with (go_at_call 64; (with_reducible refine Calls.mono hd ?_); rintro e w10 ⟨rfl, rfl⟩)
      go_roundw
      case rel => exact ⟨k + 1, by omega, by first | rw [← hnx2] | (rw [← hnx2]; go_num), by go_num, by first | rfl | trivial⟩
      case measure => simp [intOf]; omega
    · obtain rfl : k = 128 := by omega
      simp only [show ((128 : Nat) : Int) = 128 from rfl]
      have hr2 := rtwo_any Q (64 * sumN Q 128) (.slice sp9 32 cap9) wr C o9 (by omega) hs9'
      have hfl : Q ++ n2 (64 * sumN Q 128) = fullL Q := rfl
      rw [hfl] at hr2
      have hF8 := fullL_in8 Q hS8
      have hFl : (fullL Q).length = 34 := by unfold fullL; rw [List.length_append, hSl]; rfl
      have hck0 : IntKind.i64.wrap (64 * sumN Q 128) = 64 * sumN Q 128 := by rw [IntKind.wrap_i64]; omega
      have hdq : digsL Q = (List.range 133).map (digN (fullL Q)) := rfl
      generalize fullL Q = FQ at *
      go_upto_region 9 with (go_at_call 41; (with_reducible refine Calls.mono hr2 ?_); rintro e w11 ⟨sp11, cap11, rfl, o11, b11, _, hs11⟩; simp only [hSl, show (32 : Nat) + 2 = 34 from rfl] at o11 ⊢)
      have y1 := (a1.below b11 (by omega)).alloc (.cells (v64 (zer 133)) 69)
      have y3 := Row.new w11 69 (v64 (zer 133))
      have yb := (ab.trans (b11.mono (by have := ab.size; omega))).alloc (by have := ab.size; omega) (.cells (v64 (zer 133)) 69)
      have yo := o11.alloc (.cells (v64 (zer 133)) 69)
      obtain ⟨gA, hgA⟩ : ∃ gA, gA = w11.heap.size := ⟨_, rfl⟩
      have hgl : w.heap.size + 1 < gA := by omega
      have hown : some gA ≠ (Value.slice sp11 34 cap11).ownBlock := by rw [hgA]; exact own_lt o11 (Nat.le_refl _)
      go_wp2
      rw [← hgA] at y3 ⊢
      generalize w11.alloc (.cells (v64 (zer 133)) 69) = w12 at y1 y3 yb yo ⊢
      clear hgA a1 ab o11 b11 hs11 hr2
      go_loopw [14] (fun v wr => ∃ k : Nat, k ≤ 133 ∧ v = .int .i64 (k : Int) ∧ Row wr (w.heap.size + 1) 69 (v64 (zer 133)) ∧ Own8 wr C 5 (.slice sp11 34 cap11) FQ ∧ Row wr gA 69 (v64 ((List.range k).map (digN FQ) ++ List.replicate (133 - k) 0)) ∧ Below w.heap.size w wr) (fun v _ => 133 - (intOf v).toNat)
      case atStart => exact ⟨0, by omega, rfl, y1, yo, y3, yb⟩
      case round =>
        clear y1 yo y3 yb
        obtain ⟨k, hk, rfl, z1, z2, z3, zb⟩ := hrel
        by_cases hlt : k < 133
        · have hd := rdigit_any FQ sp11 34 cap11 k wr hFl (by omega) (by omega) hF8 z2.bytes
          have hpre := digsL_prefix FQ k hlt
          have hll : ((List.range k).map (digN FQ) ++ List.replicate (133 - k) 0).length = 133 := by simp; omega
          generalize (List.range k).map (digN FQ) ++ List.replicate (133 - k) 0 = A at *
          have c2 : wr.cell? ⟨gA, k, none⟩ = some _ := z3.cell64 (by omega)
          have f2 : wr.frozen? ⟨gA, k, none⟩ = false := z3.frozen
          go_wp2_with (go_at_call 64; (with_reducible refine Calls.mono hd ?_); rintro e w13 ⟨rfl, rfl⟩)
          go_roundw
          case rel => exact ⟨k + 1, by omega, by go_num, z1.setOther (by show w.heap.size + 1 ≠ gA; omega) _, z2.setOther hown _, by rw [← hpre]; exact z3.set64 k _, zb.setCell (by show w.heap.size ≤ gA; omega) _⟩
          case measure => simp [intOf]; omega
        · obtain rfl : k = 133 := by omega
          have z3' : Row wr gA 69 (v64 ((List.range 133).map (digN FQ))) := by simpa using z3
          clear z3
          have hll : ((List.range 133).map (digN FQ)).length = 133 := by simp
          have hi : (Tryd.prog.info? 69).map (·.size) = some (v64 ((List.range 133).map (digN FQ))).size := by rw [v64_size, hll]; kernel_rfl
          generalize (List.range 133).map (digN FQ) = A at *
          have hold : (v64 (zer 133)).size = (v64 A).size := by rw [v64_size, v64_size, hll, zer_len]
          go_wp2_with (first | (refine wpList_load_row (by rfl) 69 (.tmp 13) (by rfl) gA (by rfl) 69 (v64 A) (0, 0) _ z3' Tryd.underlying69 rfl hi ?_) | (refine store_row0 69 (.tmp 8) (.tmp 51) (by rfl) (by rfl) (by rfl) (w.heap.size + 1) (v64 A) (by rfl) (by rfl) 69 _ z1 hi hold (v64_one _) ?_))
          exact bodyPost_ret (results_cell_row Tryd.results42 _ _ (w.heap.size + 1) 69 (v64 A) (0, 0) _ rfl (z1.setRow _) Tryd.underlying69 rfl hi) rfl ⟨by rw [hdq], below_setRow zb (by omega) _⟩
end

section
open Go Go.RowKit

theorem Own8.setRowOther {w : World} {B g : Nat} {e : TypeId} {v : Value} {l : List Int} (h : Own8 w B e v l) (ha : some g ≠ v.ownBlock) (cs : Array Value) : Own8 (w.setRow g cs) B e v l := by
  obtain ⟨hl, h⟩ := h
  refine ⟨hl, ?_⟩
  rcases h with h | ⟨g', cap, cur, hv, hg, hh, r⟩
  · exact .inl h
  · refine .inr ⟨g', cap, cur, hv, hg, ?_, r⟩
    rw [setRow_other w g g' cs (fun e1 => ha (by rw [hv, ← e1]; rfl))]
    exact hh

set_option maxRecDepth 20000 in
set_option maxHeartbeats 300000 in
theorem rPublic_any (S : List Int → List Int) (hS : Hash S) (nm seed : List Int) (q : Int) (w : World) (hn : nm.length = 16) (hs : seed.length = 32) :
    Calls Tryd.prog 16 #[.agg (v8 nm), .int .i64 q, .agg (v8 seed)] w fun e w' => e = .returned (.agg (v8 (pubL S (nm ++ n4 q) seed))) ∧ Below w.heap.size w w' := by
  have hH : (nm ++ n4 q).length = 20 := by rw [List.length_append, hn, n4_len]
  have hL22 : (nm ++ n4 q ++ [128, 128]).length = 22 := by rw [List.length_append, hH]; rfl
  have hx : ∀ (k : Nat) wx, k < 133 → Calls Tryd.prog 35 #[.agg (v8 nm), .int .i64 q, .int .i64 (k : Int), .agg (v8 seed)] wx fun e w' => e = .returned (.agg (v8 (xL S (nm ++ n4 q) seed k))) ∧ Below wx.heap.size wx w' := fun k wx hk =>
    rsecret_any S hS nm seed q k wx hn hs
  have hy : ∀ (k : Nat) wx, k < 133 → Calls Tryd.prog 34 #[.agg (v8 nm), .int .i64 q, .int .i64 (k : Int), .int .i64 0, .int .i64 3, .agg (v8 (xL S (nm ++ n4 q) seed k))] wx fun e w' => e = .returned (.agg (v8 (yL S (nm ++ n4 q) seed k))) ∧ Below wx.heap.size wx w' := fun k wx hk =>
    rwalk_any S hS nm (xL S (nm ++ n4 q) seed k) q k 0 3 wx hn (hS.len _) (by omega)
  have hyl : ∀ i, (yL S (nm ++ n4 q) seed i).length = 32 := yL_len (fun l => hS.len l) (nm ++ n4 q) seed
  have hpk : pubL S (nm ++ n4 q) seed = S (nm ++ n4 q ++ [128, 128] ++ catN (yL S (nm ++ n4 q) seed) 133) := rfl
  have hcl' : Hid (∀ k, (catN (yL S (nm ++ n4 q) seed) k).length = 32 * k) := catN_len hyl
  have hC0 : catN (yL S (nm ++ n4 q) seed) 0 = [] := rfl
  have hCs' : Hid (∀ k, catN (yL S (nm ++ n4 q) seed) (k + 1) = catN (yL S (nm ++ n4 q) seed) k ++ yL S (nm ++ n4 q) seed k) := fun _ => rfl
  generalize catN (yL S (nm ++ n4 q) seed) = C at *
  generalize yL S (nm ++ n4 q) seed = Y at *
  generalize xL S (nm ++ n4 q) seed = X at *
  have hpk' : Hid (pubL S (nm ++ n4 q) seed = S (nm ++ n4 q ++ [128, 128] ++ C 133)) := hpk
  clear hpk
  have hSl : (pubL S (nm ++ n4 q) seed).length = 32 := hS.len _
  generalize pubL S (nm ++ n4 q) seed = PK at *
  have z32 := zv32
  go_enter Tryd.func16, Tryd.ntmps16
  go_upto_region 1 with fail
  have r0 : Row (World.alloc (World.alloc (World.alloc w (.cells (v8 nm) 22)) (.cells (v8 seed) 24)) (.cells (v8 (zer 32)) 24)) w.heap.size 22 (v8 nm) := ((Row.new _ _ _).alloc _).alloc _
  have r1 : Row (World.alloc (World.alloc (World.alloc w (.cells (v8 nm) 22)) (.cells (v8 seed) 24)) (.cells (v8 (zer 32)) 24)) (w.heap.size + 1) 24 (v8 seed) := (Row.newAt _ _ _ _ (by simp)).alloc _
  have r2 : Row (World.alloc (World.alloc (World.alloc w (.cells (v8 nm) 22)) (.cells (v8 seed) 24)) (.cells (v8 (zer 32)) 24)) (w.heap.size + 2) 24 (v8 (zer 32)) := Row.newAt _ _ _ _ (by simp)
  have b1 : Below w.heap.size w (World.alloc (World.alloc (World.alloc w (.cells (v8 nm) 22)) (.cells (v8 seed) 24)) (.cells (v8 (zer 32)) 24)) := (((Below.refl _ _).alloc (Nat.le_refl _) _).alloc (by simp) _).alloc (by simp; omega) _
  change Code.wp _ _ _ _ ((World.alloc (World.alloc (World.alloc w (.cells (v8 nm) 22)) (.cells (v8 seed) 24)) (.cells (v8 (zer 32)) 24)))
  generalize (World.alloc (World.alloc (World.alloc w (.cells (v8 nm) 22)) (.cells (v8 seed) 24)) (.cells (v8 (zer 32)) 24)) = w1 at r0 r1 r2 b1 ⊢
  have hr2 := r2.lt
  obtain ⟨B, hB⟩ : ∃ B, B = w1.heap.size := ⟨_, rfl⟩
  have hBr : w.heap.size + 2 < B := by omega
  go_wp2_with (first | (refine wpList_load_row (by rfl) 22 (.tmp 3) (by rfl) w.heap.size (by rfl) 22 (v8 nm) (0, 0) _ r0 Tryd.underlying22 rfl (name_info hn) ?_) | (go_at_call 33; (with_reducible refine Calls.mono (rhead_any nm q _ hn) ?_); rintro e w3 ⟨sp3, cap3, rfl, o3, b3⟩; rw [← hB] at o3 b3; have hs3 := b3.size; rw [← hB] at hs3) | (at_builtin; (refine append8g (.tmp 12) (.tmp 13) 28 5 (by rfl) (by rfl) B Tryd.underlying28 info5 (.slice sp3 20 cap3) (nm ++ n4 q) (by rfl) ?ho (some ⟨w3.heap.size, 0, none⟩) 2 2 [128, 128] (by rfl) rfl ?hnil ?hby ?hlen ?hB ?_; (case ho => exact (o3.alloc _)); (case hnil => exact (fun h => by cases h)); (case hby => exact (bytes_lit w3 [128, 128])); (case hlen => first | omega | (simp; omega) | simp); (case hB => first | omega | (simp; omega) | simp); rw [hL22]; intro sp4 cap4 w4 o4 b4 _g4; have hs4 := b4.size; have c4 : Below B w1 w4 := (b3.alloc (by omega) _).trans b4; have hsB4 : B ≤ w4.heap.size := (by have := c4.size; omega))))
  have p0 := r0.below c4 (by omega)
  have p1 := r1.below c4 (by omega)
  have p2 := r2.below c4 (by omega)
  have pb := b1.trans (c4.mono (by omega))
  clear r0 r1 r2 b1 o3 b3 b4 _g4 hs3 hs4 c4 z32 hr2 hB
  generalize nm ++ n4 q ++ [128, 128] = X0 at *
  go_loopw [7, 8] (fun bv v wr => ∃ (k : Nat) (spk : Option Addr) (capk : Nat), k ≤ 133 ∧ bv = .slice spk (22 + 32 * k) capk ∧ v = .int .i64 (k : Int) ∧ Own8 wr B 5 (.slice spk (22 + 32 * k) capk) (X0 ++ C k) ∧ Row wr w.heap.size 22 (v8 nm) ∧ Row wr (w.heap.size + 1) 24 (v8 seed) ∧ Row wr (w.heap.size + 2) 24 (v8 (zer 32)) ∧ Below w.heap.size w wr ∧ B ≤ wr.heap.size) (fun _ v _ => 133 - (intOf v).toNat)
  case atStart => exact ⟨0, sp4, cap4, by omega, rfl, rfl, by simpa [hC0] using o4, p0, p1, p2, pb, hsB4⟩
  case round =>
    clear p0 p1 p2 pb o4 hsB4
    obtain ⟨k, spk, capk, hk, rfl, rfl, ok, z0, z1, z2, zb, hsz⟩ := hrel
    by_cases hlt : k < 133
    · have hCl := hcl'.out k
      have hYk := hyl k
      have hXk : (X0 ++ C k).length = 22 + 32 * k := by rw [List.length_append, hL22, hCl]
      have hXk1 : (X0 ++ C k ++ Y k).length = 22 + 32 * (k + 1) := by rw [List.length_append, hXk, hYk]; omega
      have hnx : Hid (X0 ++ C k ++ Y k = X0 ++ C (k + 1)) := by show _ = _; rw [hCs'.out k, List.append_assoc]
      go_upto_region 5 with fail
      refine region_alloc 9 24 (v8 (zer 32)) 9 (by kernel_rfl) (by kernel_rfl) (by rfl) (by kernel_rfl) ?hal ?hh
      case hal =>
        intro a w o ho
        cases ho
        kernel_rfl
      case hh =>
        apply Exists.intro
        refine ⟨fun ι _ W hb hc => ?_, fun b w2 hb2 hbel2 hrow => ?_⟩
        · have t0 : ∀ i, Row (W i) w.heap.size 22 (v8 nm) := fun i => z0.below (hb i) z0.lt
          have t1 : ∀ i, Row (W i) (w.heap.size + 1) 24 (v8 seed) := fun i => z1.below (hb i) z1.lt
          simp only [List.take_succ_cons, List.take_zero]
          refine q_load_row 22 (.tmp 3) (by rfl) (by rfl) (w.heap.size) (by rfl) 22 _ _ t0 Tryd.underlying22 rfl (name_info hn) ?_
          simp only [Act.put, List.setIfInBounds_toArray, List.set_cons_succ, List.set_cons_zero]
          go_big_quiet_step (fail)
          go_big_quiet_step (fail)
          refine q_load_row 22 (.tmp 3) (by rfl) (by rfl) (w.heap.size) (by rfl) 22 _ _ t0 Tryd.underlying22 rfl (name_info hn) ?_
          simp only [Act.put, List.setIfInBounds_toArray, List.set_cons_succ, List.set_cons_zero]
          go_big_quiet_step (fail)
          go_big_quiet_step (fail)
          refine q_load_row 24 (.tmp 5) (by rfl) (by rfl) (w.heap.size + 1) (by rfl) 24 _ _ t1 Tryd.underlying24 rfl (id_info hs) ?_
          simp only [Act.put, List.setIfInBounds_toArray, List.set_cons_succ, List.set_cons_zero]
          go_big_quiet_step ((go_at_call 35; exact (hx k _ hlt).mono (fun e w' ⟨he, hw⟩ => ⟨he, hc _ _ hw⟩)))
          go_big_quiet_step ((go_at_call 34; exact (hy k _ hlt).mono (fun e w' ⟨he, hw⟩ => ⟨he, hc _ _ hw⟩)))
          exact wpQuiet_nil rfl
        · simp only [List.drop_succ_cons, List.drop_zero, Act.put, List.setIfInBounds_toArray, List.set_cons_succ, List.set_cons_zero]
          refine store_row0 24 (.tmp 9) (.tmp 27) (by rfl) (by rfl) (by rfl) b (v8 (Y k)) (by rfl) (by rfl) 24 _ hrow (id_info hYk) (by rw [v8_size, v8_size, hYk, zer_len]) (v8_one _) ?_
          have hsw := hbel2.size
          have y0 := (z0.below hbel2 z0.lt).setRowOther (g := b) (by omega) (v8 (Y k))
          have y1 := (z1.below hbel2 z1.lt).setRowOther (g := b) (by omega) (v8 (Y k))
          have y2 := (z2.below hbel2 z2.lt).setRowOther (g := b) (by omega) (v8 (Y k))
          have y4 := hrow.setRow (v8 (Y k))
          have y5 := (ok.below hbel2 (Nat.le_refl _)).setRowOther (g := b) (own_lt ok hb2) (v8 (Y k))
          have yb := below_setRow (g := b) (zb.trans (hbel2.mono zb.size)) (by omega) (v8 (Y k))
          have hys : B ≤ (w2.setRow b (v8 (Y k))).heap.size := by have := (below_setRow (g := b) (Below.refl b w2) (Nat.le_refl _) (v8 (Y k))).size; omega
          generalize w2.setRow b (v8 (Y k)) = w3 at y0 y1 y2 y4 y5 yb hys ⊢
          clear z0 z1 z2 zb hbel2 hrow ok
          go_wp2_with (at_builtin; (refine append8g (.tmp 28) (.tmp 29) 28 5 (by rfl) (by rfl) B Tryd.underlying28 info5 (.slice spk (22 + 32 * k) capk) (X0 ++ C k) (by rfl) ?ho (some ⟨b, 0, none⟩) 32 32 (Y k) (by rfl) hYk ?hnil ?hby ?hlen ?hB ?_; (case ho => exact y5); (case hnil => exact (fun h => by cases h)); (case hby => exact y4.bytes); (case hlen => first | omega | (simp; omega) | simp); (case hB => first | omega | (simp; omega) | simp); rw [hXk1]; intro sp7 cap7 w7 o7 b7 _g7; have hs7 := b7.size))
          have hbB : w.heap.size + 2 < B := hBr
          go_roundw
          case rel => exact ⟨k + 1, sp7, cap7, by omega, rfl, by go_num, by rw [← hnx.out]; exact o7, y0.below b7 (by omega), y1.below b7 (by omega), y2.below b7 (by omega), yb.trans (b7.mono (by omega)), by omega⟩
          case measure => simp [intOf]; omega
    · obtain rfl : k = 133 := by omega
      have hCl := hcl'.out 133
      have hpo := hpk'.out
      have hXl : (X0 ++ C 133).length = 22 + 32 * 133 := by rw [List.length_append, hL22, hCl]
      have hnil := own_nil ok (by rw [hXl]; omega)
      have hrs := hS.rsum (X0 ++ C 133) spk (22 + 32 * 133) capk wr hXl (by omega) hnil ok.bytes
      rw [← hpo] at hrs
      clear hpo
      generalize C 133 = E at *
      have hz2 := z2.lt
      simp only [show 22 + 32 * 133 = 4278 from rfl] at hrs ⊢
      go_wp2_with (first | (go_at_call 36; (with_reducible refine Calls.mono hrs ?_); rintro e w8 ⟨rfl, hb8⟩) | (refine store_row0 24 (.tmp 6) (.tmp 32) (by rfl) (by rfl) (by rfl) (w.heap.size + 2) (v8 PK) (by rfl) (by rfl) 24 _ (z2.below hb8 (by omega)) (id_info hSl) (by rw [v8_size, v8_size, hSl, zer_len]) (v8_one _) ?_))
      exact bodyPost_ret (results_cell_row Tryd.results16 _ _ (w.heap.size + 2) 24 (v8 PK) (0, 0) _ rfl ((z2.below hb8 (by omega)).setRow _) Tryd.underlying24 rfl (id_info hSl)) rfl ⟨rfl, below_setRow (zb.trans (hb8.mono zb.size)) (by omega) _⟩
end

section
open Go Go.RowKit

def OwnS (w : World) (B : Nat) (s : Value) (n : Nat) (L : List Int) : Prop := ∃ sp cap, s = .slice sp n cap ∧ Own8 w B 5 (.slice sp n cap) L
def LitS (w : World) (B : Nat) (s : Value) (n : Nat) (L : List Int) : Prop := ∃ b, s = .slice (some ⟨b, 0, none⟩) n n ∧ Row w b 5 (v8 L) ∧ B ≤ b
def VarS (w : World) (B : Nat) (s : Value) (T : TypeId) (z : List Int) : Prop := ∃ b, s = .pointer (some ⟨b, 0, none⟩) ∧ Row w b T (v8 z) ∧ B ≤ b
theorem OwnS.alloc {w : World} {B n : Nat} {s : Value} {L : List Int} (h : OwnS w B s n L) (o : Obj) : OwnS (w.alloc o) B s n L := by
  obtain ⟨sp, cap, rfl, h⟩ := h
  exact ⟨sp, cap, rfl, h.alloc o⟩
theorem OwnS.below {w w' : World} {B n : Nat} {s : Value} {L : List Int} (h : OwnS w B s n L) (hb : Below w.heap.size w w') : OwnS w' B s n L := by
  obtain ⟨sp, cap, rfl, h⟩ := h
  exact ⟨sp, cap, rfl, h.below hb (Nat.le_refl _)⟩
theorem OwnS.new (w : World) (B : Nat) (hB : B ≤ w.heap.size) : OwnS (w.alloc (.cells (v8 []) 5)) B (.slice (some ⟨w.heap.size, 0, none⟩) 0 0) 0 [] := ⟨_, _, rfl, own8_lit w B hB⟩
theorem LitS.alloc {w : World} {B n : Nat} {s : Value} {L : List Int} (h : LitS w B s n L) (o : Obj) : LitS (w.alloc o) B s n L := by
  obtain ⟨b, rfl, h, hb⟩ := h
  exact ⟨b, rfl, h.alloc o, hb⟩
theorem LitS.below {w w' : World} {B n : Nat} {s : Value} {L : List Int} (h : LitS w B s n L) (hb : Below w.heap.size w w') : LitS w' B s n L := by
  obtain ⟨b, rfl, h, h2⟩ := h
  exact ⟨b, rfl, h.below hb h.lt, h2⟩
theorem LitS.grew {w w' : World} {B n : Nat} {s v : Value} {L : List Int} (h : LitS w B s n L) (hg : Grew w w' v.ownBlock) (hne : s.ownBlock ≠ v.ownBlock) : LitS w' B s n L := by
  obtain ⟨b, rfl, h, h2⟩ := h
  exact ⟨b, rfl, h.grew hg hne, h2⟩
theorem LitS.new (w : World) (B : Nat) (hB : B ≤ w.heap.size) (n : Nat) (L : List Int) (_ : L.length = n) : LitS (w.alloc (.cells (v8 L) 5)) B (.slice (some ⟨w.heap.size, 0, none⟩) n n) n L := ⟨_, rfl, Row.new _ _ _, hB⟩
theorem LitS.ne_own {w w' : World} {B n : Nat} {s v : Value} {L l : List Int} (h : LitS w B s n L) (ho : Own8 w' w.heap.size 5 v l) : s.ownBlock ≠ v.ownBlock := by
  obtain ⟨b, rfl, h, _⟩ := h
  exact own_ge ho h.lt
theorem LitS.ne_new {w : World} {B n m : Nat} {s : Value} {L : List Int} (h : LitS w B s n L) : s.ownBlock ≠ (Value.slice (some ⟨w.heap.size, 0, none⟩) m m).ownBlock := by
  obtain ⟨b, rfl, h, _⟩ := h
  have := h.lt
  intro e
  have : b = w.heap.size := by simpa [Value.ownBlock] using e
  omega
theorem litNew {w : World} {B n m : Nat} {s : Value} {L : List Int} (h : OwnS w B s n L) : (Value.slice (some ⟨w.heap.size, 0, none⟩) m m).ownBlock ≠ s.ownBlock := by
  obtain ⟨sp, cap, rfl, h⟩ := h
  exact own_lt h (Nat.le_refl _)
theorem VarS.alloc {w : World} {B : Nat} {s : Value} {T : TypeId} {z : List Int} (h : VarS w B s T z) (o : Obj) : VarS (w.alloc o) B s T z := by
  obtain ⟨b, rfl, h, hb⟩ := h
  exact ⟨b, rfl, h.alloc o, hb⟩
theorem VarS.below {w w' : World} {B : Nat} {s : Value} {T : TypeId} {z : List Int} (h : VarS w B s T z) (hb : Below w.heap.size w w') : VarS w' B s T z := by
  obtain ⟨b, rfl, h, h2⟩ := h
  exact ⟨b, rfl, h.below hb h.lt, h2⟩
theorem VarS.grew {w w' : World} {B B' : Nat} {s v : Value} {T : TypeId} {z l : List Int} (h : VarS w B s T z) (hg : Grew w w' v.ownBlock) (ho : Own8 w B' 5 v l) (hT : T ≠ 5) : VarS w' B s T z := by
  obtain ⟨b, rfl, h, h2⟩ := h
  refine ⟨b, rfl, h.grew hg (fun e1 => ?_), h2⟩
  obtain ⟨_, ho⟩ := ho
  rcases ho with ⟨rfl, _⟩ | ⟨g', cap, cur, rfl, _, hh, _⟩
  · cases e1
  · have e2 : b = g' := by simpa [Value.ownBlock] using e1
    subst e2
    unfold Row at h
    rw [h] at hh
    injection hh with hh
    injection hh with _ hh
    exact hT hh
theorem VarS.new (w : World) (B : Nat) (hB : B ≤ w.heap.size) (T : TypeId) (z : List Int) : VarS (w.alloc (.cells (v8 z) T)) B (.pointer (some ⟨w.heap.size, 0, none⟩)) T z := ⟨_, rfl, Row.new _ _ _, hB⟩
theorem var_ne {w : World} {B b : Nat} {v : Value} {T : TypeId} {vs : Array Value} {l : List Int} (h : Row w b T vs) (ho : Own8 w B 5 v l) (hT : T ≠ 5) : some b ≠ v.ownBlock := fun e1 => by
  obtain ⟨_, ho⟩ := ho
  rcases ho with ⟨rfl, _⟩ | ⟨g', cap, cur, rfl, _, hh, _⟩
  · cases e1
  · have e2 : b = g' := by simpa [Value.ownBlock] using e1
    subst e2
    unfold Row at h
    rw [h] at hh
    injection hh with hh
    injection hh with _ hh
    exact hT hh
theorem OwnS.setVar {w : World} {B n b : Nat} {s : Value} {L : List Int} {T : TypeId} {vs cs : Array Value} (h : OwnS w B s n L) (hr : Row w b T vs) (hT : T ≠ 5) : OwnS (w.setRow b cs) B s n L := by
  obtain ⟨sp, cap, rfl, h⟩ := h
  exact ⟨sp, cap, rfl, h.setRowOther (var_ne hr h hT) cs⟩
theorem LitS.setVar {w : World} {B n b : Nat} {s : Value} {L : List Int} {T : TypeId} {vs cs : Array Value} (h : LitS w B s n L) (hr : Row w b T vs) (hT : T ≠ 5) : LitS (w.setRow b cs) B s n L := by
  obtain ⟨b', rfl, h, h2⟩ := h
  refine ⟨b', rfl, h.setRowOther (fun e => ?_) cs, h2⟩
  subst e
  unfold Row at h hr
  rw [h] at hr
  injection hr with hr
  injection hr with _ hr
  exact hT hr.symm
theorem inv_store {P : Program} {ops : Array Oper} {Q : Exit → Act → World → Prop} {i : Nat} {o : Oper} {K : Act → World → Prop} {a : Act} {w : World} (ty : TypeId) (x y : Operand) (ho : ops[i]? = some o) (hop : o.op = .store ty x y) (hg : o.guard = none) (hd : o.dst = none)
    (b : Nat) (cs : List Int) (hx : a.eval x = .pointer (some ⟨b, 0, none⟩)) (hy : a.eval y = .agg (v8 cs)) (T : TypeId) (z : List Int) (hr : Row w b T (v8 z)) (hi : (P.info? ty).map (·.size) = some (v8 cs).size) (hl : z.length = cs.length)
    (h : K a (w.setRow b (v8 cs))) : wpOp P ops Q i K a w := by
  refine inv_op ho hg ?_
  have h1 := run_storeVar_row (P := P) w b 0 T ty (v8 z) (v8 cs) hr (by rw [v8_size, v8_size]; omega) hi (v8_one _)
  have e : ((v8 z).toList.take 0 ++ (v8 cs).toList ++ (v8 z).toList.drop (0 + (v8 cs).size)).toArray = v8 cs := by
    simp [v8, hl]
  rw [e] at h1
  unfold Oper.wp execOp
  simp only [hop, hx, hy, Instr.storeAt, Instr.sureAddr, Sem.run_bind, Sem.run_pure, Result.andThen_ok, h1]
  rw [← show a.put o.dst undef = a by rw [hd]; rfl] at h
  exact h
theorem exec_load_row {P : Program} {o : Oper} {a : Act} {w : World} (ty : TypeId) (x : Operand) (ho : o.op = .load ty x) (g : Nat) (hx : a.eval x = .pointer (some ⟨g, 0, none⟩)) (t : TypeId) (cs : Array Value) (d : TypeDesc) (hr : Row w g t cs)
    (hu : P.underlying ty = some d) (hd : (match d with | .struct _ | .array _ _ => true | _ => false) = true) (hi : (P.info? ty).map (·.size) = some cs.size) : (execOp a.eval o).run P w = .ok (.value (.agg cs)) w := by
  unfold execOp
  simp only [ho, hx, Instr.loadAt, Instr.sureAddr, Sem.run_bind, Sem.run_pure, Result.andThen_ok, run_loadVar_row w g t ty cs (0, 0) d hr hu hd hi]
end

section
open Go Go.RowKit

theorem run_eq_array {P : Program} (w : World) (d : Nat) (t e : TypeId) (n : Nat) (x y : List Int) (ht : P.underlying t = some (.array n e)) (he : P.underlying e = some (.int .u8)) (hs : (P.info? e).map (·.size) = some 1)
    (hx : x.length = n) (hy : y.length = n) : (Op.equalIn (d + 2) t (.agg (v8 x)) (.agg (v8 y))).run P w = .ok (decide (x = y)) w := by
  obtain ⟨inf, hinf, h1⟩ : ∃ inf, P.info? e = some inf ∧ inf.size = 1 := by
    cases hq : P.info? e with
    | none => simp [hq] at hs
    | some i => exact ⟨i, rfl, by simpa [hq] using hs⟩
  unfold Op.equalIn
  simp only [Sem.run_bind, run_underlying ht, Result.andThen_ok, sizeOf, typeInfo, run_program, hinf, Sem.run_pure, h1, Nat.mul_one]
  rw [Std.Legacy.Range.forIn_eq_forIn_range']
  simp only [Std.Legacy.Range.size, Nat.sub_zero, Nat.add_one_sub_one, Nat.div_one]
  have hpart : ∀ (l : List Int) (i : Nat) (w : World), i < l.length → (part e (v8 l) i).run P w = .ok (.int .u8 (gi l i)) w := fun l i w hi => by
    simp [part, isAgg, run_underlying he, v8_at hi, Sem.run_bind]
  have key : ∀ m k, k + m = n → (∀ j, j < k → gi x j = gi y j) → ((Sem.run P
          (forIn (List.range' k m 1) ((none : Option Bool), ()) fun i __s => do
            let __do_lift ← part e (v8 x) i
            let __do_lift_1 ← part e (v8 y) i
            let __do_lift ← Op.equalIn (d + 1) e __do_lift __do_lift_1
            if (!__do_lift) = true then pure (ForInStep.done (some false, ())) else pure (ForInStep.yield (none, ())))
          w).andThen
      fun a w' =>
      Sem.run P
        (match a.fst with
        | some r => pure r
        | none => pure true)
        w') = Result.ok (decide (x = y)) w := by
    intro m
    induction m with
    | zero =>
      intro k hk hj
      have e1 : x = y := by
        apply List.ext_getElem (by omega)
        intro j h1 h2
        have := hj j (by omega)
        simpa [gi, h1, h2] using this
      simp [e1]
    | succ m ih =>
      intro k hk hj
      rw [List.range'_succ, List.forIn_cons]
      simp only [Sem.run_bind, hpart x k w (by omega), hpart y k w (by omega), Result.andThen_ok, run_equalIn_int w d e .u8 .u8 _ _ he]
      by_cases h : gi x k = gi y k
      · simp only [h, BEq.rfl, Bool.not_true, Bool.false_eq_true, if_false, Sem.run_pure, Result.andThen_ok]
        exact ih (k + 1) (by omega) (fun j hj' => by
          by_cases e2 : j = k
          · subst e2; exact h
          · exact hj j (by omega))
      · have h' : (gi x k == gi y k) = false := by simpa using h
        have hne : x ≠ y := fun e2 => h (by rw [e2])
        simp [h', hne]
  refine Eq.trans (congrArg (Result.andThen _) ?_) (key n 0 (by omega) (fun j hj => by omega))
  funext a w'
  obtain ⟨o, u⟩ := a
  cases o <;> rfl

theorem run_eql_bytes {P : Program} (w : World) (t e : TypeId) (n : Nat) (x y : List Int) (ht : P.underlying t = some (.array n e)) (he : P.underlying e = some (.int .u8)) (hs : (P.info? e).map (·.size) = some 1)
    (hx : x.length = n) (hy : y.length = n) : (binOp .eql t (.agg (v8 x)) (.agg (v8 y))).run P w = .ok (.bool (decide (x = y))) w := by
  rw [run_eql_struct, run_eq_array w 9998 t e n x y ht he hs hx hy]; rfl
theorem run_neq_bytes {P : Program} (w : World) (t e : TypeId) (n : Nat) (x y : List Int) (ht : P.underlying t = some (.array n e)) (he : P.underlying e = some (.int .u8)) (hs : (P.info? e).map (·.size) = some 1)
    (hx : x.length = n) (hy : y.length = n) : (binOp .neq t (.agg (v8 x)) (.agg (v8 y))).run P w = .ok (.bool (!decide (x = y))) w := by
  rw [run_neq_struct, run_eq_array w 9998 t e n x y ht he hs hx hy]; rfl
end

section
open Go Go.RowKit

theorem inv_opG {P : Program} {ops : Array Oper} {Q : Exit → Act → World → Prop} {i : Nat} {o : Oper} {K : Act → World → Prop} {a : Act} {w : World} (ho : ops[i]? = some o) (hg : Region.wanted o (yielded ops a.tmps) = true) (h : Oper.wp P o a w K Q) : wpOp P ops Q i K a w := by
  unfold wpOp
  simp only [ho, hg, if_true]
  exact .inl h
theorem inv_valG {P : Program} {ops : Array Oper} {Q : Exit → Act → World → Prop} {i : Nat} {o : Oper} {K : Act → World → Prop} {a : Act} {w w' : World} (v : Value) (ho : ops[i]? = some o) (hg : Region.wanted o (yielded ops a.tmps) = true) (hr : (execOp a.eval o).run P w = .ok (.value v) w') (h : K (a.put o.dst v) w') : wpOp P ops Q i K a w := by
  refine inv_opG ho hg ?_
  unfold Oper.wp
  rw [hr]
  exact h
theorem inv_callG {P : Program} {ops : Array Oper} {Q : Exit → Act → World → Prop} {i : Nat} {o : Oper} {K : Act → World → Prop} {a : Act} {w : World} (f : FuncId) (vs : Array Value) (R : Ending → World → Prop) (ho : ops[i]? = some o) (hg : Region.wanted o (yielded ops a.tmps) = true) (hr : (execOp a.eval o).run P w = .ok (.enter f vs) w) (hc : Calls P f vs w R) (h : ∀ e w', R e w' → ∃ v, e = .returned v ∧ K (a.put o.dst v) w') : wpOp P ops Q i K a w := by
  refine inv_opG ho hg ?_
  unfold Oper.wp
  rw [hr]
  exact hc.mono fun e w' hR => by
    obtain ⟨v, rfl, hk⟩ := h e w' hR
    exact hk
theorem exec_convert8 {o : Oper} {a : Act} {w : World} (x : Operand) (hop : o.op = .convert 28 9 x) (sp : Option Addr) (len cap : Nat) (xs : List Int) (hx : a.eval x = .slice sp len cap) (hlen : xs.length = len) (hp : 0 < len) (hb : Bytes w sp xs) :
    (execOp a.eval o).run Tryd.prog w = .ok (.value (.string (strOfNums xs))) w := by
  obtain ⟨b, off, rfl, hc⟩ := hb (by omega)
  have h := run_convert_bytes_arg (P := Tryd.prog) w 28 5 Tryd.underlying28 Tryd.underlying5 b off len cap xs hlen (fun i hi => by
    rw [hc i (by omega)]; rfl) 9 Tryd.underlying9
  unfold execOp
  simp only [hop, hx]
  simp [h, Result.andThen]
theorem exec_eql_str {P : Program} {o : Oper} {a : Act} {w : World} (t t2 : TypeId) (x y : Operand) (hop : o.op = .binOp .eql t x y t2) (s : ByteArray) (hx : a.eval x = .string s) (hy : a.eval y = .string s) :
    (execOp a.eval o).run P w = .ok (.value (.bool true)) w := by
  unfold execOp
  simp only [hop, hx, hy]
  simp [eqGuard, binOp_string_eql]
theorem exec_eql_id {o : Oper} {a : Act} {w : World} (x y : Operand) (hop : o.op = .binOp .eql 24 x y 24) (l : List Int) (hx : a.eval x = .agg (v8 l)) (hy : a.eval y = .agg (v8 l)) (hl : l.length = 32) :
    (execOp a.eval o).run Tryd.prog w = .ok (.value (.bool true)) w := by
  have h := run_eql_bytes (P := Tryd.prog) w 24 5 32 l l Tryd.underlying24 Tryd.underlying5 (by kernel_rfl) hl hl
  unfold execOp
  simp only [hop, hx, hy]
  simp [eqGuard, h, Result.andThen]
end

end Go.Proofs.YtoebnkepeledmaaDoor
