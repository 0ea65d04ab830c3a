/- The reference's digits of a text. No old memory turns. -/
import Derived.Test.YtoebnkepeledmaaDoorRefD
namespace Go.Proofs.YtoebnkepeledmaaDoor
open Go Go.RowKit

theorem Own8.setOther {w : World} {B : Nat} {e : TypeId} {v : Value} {l : List Int} (h : Own8 w B e v l) {a : Addr} (ha : some a.block ≠ v.ownBlock) (u : Value) : Own8 (w.setCell a u) B e v l := by
  obtain ⟨hl, h⟩ := h
  refine ⟨hl, ?_⟩
  rcases h with h | ⟨g, cap, cur, hv, hg, hh, r⟩
  · exact .inl h
  · refine .inr ⟨g, cap, cur, hv, hg, ?_, r⟩
    rw [heap_setCell_other w a g u (fun e1 => ha (by rw [hv, ← e1]; rfl))]
    exact hh

set_option maxRecDepth 20000 in
set_option maxHeartbeats 300000 in
theorem rdigits_any (S : List Int → List Int) (hS : Hash S) (nm c msg : List Int) (q : Int) (cp mp : Option Addr) (cl cc ml mc : Nat) (w : World) (hn : nm.length = 16)
    (hcl : c.length = cl) (hcn : cp = none → cc = 0 ∧ cl = 0) (hcb : Bytes w cp c) (hcm : cl ≤ 1000) (hml : msg.length = ml) (hmn : mp = none → mc = 0 ∧ ml = 0) (hmb : Bytes w mp msg) (hmm : ml ≤ 1000000) :
    Calls Tryd.prog 42 #[.agg (v8 nm), .int .i64 q, .slice cp cl cc, .slice mp ml mc] w fun e w' => e = .returned (.agg (v64 (digsL (textL S (nm ++ n4 q) c msg)))) ∧ Below w.heap.size w w' := by
  have hH : (nm ++ n4 q).length = 20 := by rw [List.length_append, hn, n4_len]
  have hx : textL S (nm ++ n4 q) c msg = S (nm ++ n4 q ++ [129, 129] ++ c ++ msg) := rfl
  rw [hx]
  clear hx
  have hL22 : (nm ++ n4 q ++ [129, 129]).length = 22 := by rw [List.length_append, hH]; rfl
  have hL22c : (nm ++ n4 q ++ [129, 129] ++ c).length = 22 + cl := by rw [List.length_append, hL22, hcl]
  have hXl : (nm ++ n4 q ++ [129, 129] ++ c ++ msg).length = 22 + cl + ml := by rw [List.length_append, hL22c, hml]
  have hSl := hS.len (nm ++ n4 q ++ [129, 129] ++ c ++ msg)
  have hS8 := hS.in8 (nm ++ n4 q ++ [129, 129] ++ c ++ msg)
  have hrs : ∀ sp cap w', (sp = none → cap = 0 ∧ 22 + cl + ml = 0) → Bytes w' sp (nm ++ n4 q ++ [129, 129] ++ c ++ msg) → Calls Tryd.prog 36 #[.slice sp (22 + cl + ml) cap] w' fun e w'' => e = .returned (.agg (v8 (S (nm ++ n4 q ++ [129, 129] ++ c ++ msg)))) ∧ Below w'.heap.size w' w'' := fun sp cap w' h1 h2 => hS.rsum _ sp _ cap w' hXl (by omega) h1 h2
  generalize hQ : S (nm ++ n4 q ++ [129, 129] ++ c ++ msg) = Q at *
  clear hQ
  have hzv : ∀ wx, (zeroValue 69).run Tryd.prog wx = .ok (.agg (v64 (zer 133))) wx := fun wx => by kernel_rfl
  have z32 := zv32
  go_enter Tryd.func42, Tryd.ntmps42
  go_upto_region 1 with fail
  have r0 : Row (World.alloc (World.alloc w (.cells (v8 nm) 22)) (.cells (v64 (zer 133)) 69)) w.heap.size 22 (v8 nm) := (Row.new _ _ _).alloc _
  have r1 : Row (World.alloc (World.alloc w (.cells (v8 nm) 22)) (.cells (v64 (zer 133)) 69)) (w.heap.size + 1) 69 (v64 (zer 133)) := Row.newAt _ _ _ _ (by simp)
  have b1 : Below w.heap.size w (World.alloc (World.alloc w (.cells (v8 nm) 22)) (.cells (v64 (zer 133)) 69)) := ((Below.refl _ _).alloc (Nat.le_refl _) _).alloc (by simp) _
  change Code.wp _ _ _ _ ((World.alloc (World.alloc w (.cells (v8 nm) 22)) (.cells (v64 (zer 133)) 69)))
  generalize (World.alloc (World.alloc w (.cells (v8 nm) 22)) (.cells (v64 (zer 133)) 69)) = w1 at r0 r1 b1 ⊢
  have hr1 := r1.lt
  obtain ⟨B, hB⟩ : ∃ B, B = w1.heap.size := ⟨_, rfl⟩
  have hBr : w.heap.size + 1 < B := by omega
  have cbk : ∀ w', Below B w1 w' → Bytes w' cp c := by rw [hB]; exact fun w' hb => (hcb.below b1).below hb
  have mbk : ∀ w', Below B w1 w' → Bytes w' mp msg := by rw [hB]; exact fun w' hb => (hmb.below b1).below hb
  go_upto_region 2 with (first |  (refine wpList_load_row (by rfl) 22 (.tmp 4) (by rfl) w.heap.size (by rfl) 22 (v8 nm) (0, 0) _ r0 Tryd.underlying22 rfl (name_info hn) ?_) | (go_at_call 33; (with_reducible refine Calls.mono (rhead_any nm q _ hn) ?_); rintro e w3 ⟨sp3, cap3, rfl, o3, b3⟩; rw [← hB] at o3 b3; have hs3 := b3.size; rw [← hB] at hs3) | (at_builtin; (refine append8g (.tmp 17) (.tmp 18) 28 5 (by rfl) (by rfl) B Tryd.underlying28 info5 (.slice sp3 20 cap3) (nm ++ n4 q) (by rfl) ?ho (some ⟨w3.heap.size, 0, none⟩) 2 2 [129, 129] (by rfl) rfl ?hnil ?hby ?hlen ?hB ?_; (case ho => exact (o3.alloc _)); (case hnil => exact (fun h => by cases h)); (case hby => exact (bytes_lit w3 [129, 129])); (case hlen => first | omega | (simp; omega) | simp); (case hB => first | omega | (simp; omega) | simp); rw [hL22]; intro sp4 cap4 w4 o4 b4 _g4; have hs4 := b4.size; have c4 : Below B w1 w4 := (b3.alloc (by omega) _).trans b4; have cb4 : Bytes w4 cp c := cbk _ c4; have hsB4 : B ≤ w4.heap.size := (by have := c4.size; omega))) | (at_builtin; (refine append8g (.tmp 19) (.tmp 20) 28 5 (by rfl) (by rfl) B Tryd.underlying28 info5 (.slice sp4 22 cap4) (nm ++ n4 q ++ [129, 129]) (by rfl) ?ho cp cl cc c (by rfl) hcl ?hnil ?hby ?hlen ?hB ?_; (case ho => exact o4); (case hnil => exact hcn); (case hby => exact cb4); (case hlen => first | omega | (simp; omega) | simp); (case hB => first | omega | (simp; omega) | simp); rw [hL22c]; intro sp5 cap5 w5 o5 b5 _g5; have hs5 := b5.size; have c5 : Below B w1 w5 := c4.trans b5; have mb5 : Bytes w5 mp msg := mbk _ c5; have hsB5 : B ≤ w5.heap.size := (by have := c5.size; omega))) | (at_builtin; (refine append8g (.tmp 21) (.tmp 22) 28 5 (by rfl) (by rfl) B Tryd.underlying28 info5 (.slice sp5 (22 + cl) cap5) (nm ++ n4 q ++ [129, 129] ++ c) (by rfl) ?ho mp ml mc msg (by rfl) hml ?hnil ?hby ?hlen ?hB ?_; (case ho => exact o5); (case hnil => exact hmn); (case hby => exact mb5); (case hlen => first | omega | (simp; omega) | simp); (case hB => first | omega | (simp; omega) | simp); rw [hXl]; intro sp6 cap6 w6 o6 b6 _g6; have hs6 := b6.size; have c6 : Below B w1 w6 := c5.trans b6; have hnil6 := own_nil o6 (by rw [hXl]; omega))) | (go_at_call 36; (with_reducible refine Calls.mono (hrs sp6 cap6 w6 hnil6 o6.bytes) ?_); rintro e w7 ⟨rfl, b7⟩; have c7 : Below B w1 w7 := c6.trans (b7.mono (by have := c6.size; omega))) | (refine store_row0 24 (.tmp 9) (.tmp 24) (by rfl) (by rfl) (by rfl) w7.heap.size (v8 Q) (by rfl) (by rfl) 24 (v8 (zer 32)) (Row.new w7 24 _) (id_info hSl) (by rw [v8_size, v8_size, hSl, zer_len]) (v8_one _) ?_))
  have hs7 := c7.size
  have p1 := ((r1.below c7 hBr).alloc (.cells (v8 (zer 32)) 24)).setRowOther (g := w7.heap.size) (by omega) (v8 Q)
  have p2 := (Row.new w7 24 (v8 (zer 32))).setRow (v8 Q)
  have pb : Below w.heap.size w ((w7.alloc (.cells (v8 (zer 32)) 24)).setRow w7.heap.size (v8 Q)) := below_setRow ((b1.trans (c7.mono (by omega))).alloc (by omega) _) (by omega) _
  obtain ⟨gq, hgq⟩ : ∃ gq, gq = w7.heap.size := ⟨_, rfl⟩
  have hgB : w.heap.size + 1 < gq := by omega
  change Code.wp _ _ _ _ ((w7.alloc (.cells (v8 (zer 32)) 24)).setRow w7.heap.size (v8 Q))
  rw [← hgq] at p1 p2 pb ⊢
  generalize (w7.alloc (.cells (v8 (zer 32)) 24)).setRow gq (v8 Q) = w8 at p1 p2 pb ⊢
  clear hgq r0 r1 b1 o3 b3 o4 b4 o5 b5 o6 b6 c4 c5 c6 c7 b7 cb4 mb5 hs3 hs4 hs5 hs6 hs7 hnil6 hrs
  have hp2 := p2.lt
  obtain ⟨C, hC⟩ : ∃ C, C = w8.heap.size := ⟨_, rfl⟩
  have hCg : gq < C := by omega
  have own0 := own8_lit w8 C (by omega)
  have q2by : Bytes (w8.alloc (.cells #[] 5)) (some ⟨gq, 0, none⟩) Q := (p2.alloc _).bytes
  go_wp2_with (at_builtin; (refine append8g (.tmp 25) (.tmp 26) 28 5 (by rfl) (by rfl) C Tryd.underlying28 info5 (.slice (some ⟨w8.heap.size, 0, none⟩) 0 0) [] (by rfl) ?ho (some ⟨gq, 0, none⟩) 32 32 Q (by rfl) hSl ?hnil ?hby ?hlen ?hB ?_; (case ho => exact own0); (case hnil => exact (fun h => by cases h)); (case hby => exact q2by); (case hlen => first | omega | (simp; omega) | simp); (case hB => first | omega | (simp; omega) | simp); rw [List.nil_append, hSl]; intro sp9 cap9 w9 o9 b9 _g9; have hs9 := b9.size))
  have c9 : Below C w8 w9 := ((Below.refl C w8).alloc (by omega) _).trans b9
  have a1 := p1.below c9 (by omega)
  have ab : Below w.heap.size w w9 := pb.trans (c9.mono (by have := pb.size; omega))
  have hs9' : C ≤ w9.heap.size := by have := c9.size; omega
  clear own0 q2by b9 hs9 p1 p2 pb c9 _g9
  go_loopw [11, 12] (fun s v wr => ∃ k : Nat, k ≤ 128 ∧ s = .int .i64 (sumN Q k) ∧ v = .int .i64 (k : Int) ∧ wr = w9) (fun _ v _ => 128 - (intOf v).toNat)
  case atStart => exact ⟨0, by omega, rfl, rfl, rfl⟩
  case round =>
    obtain ⟨k, hk, rfl, rfl, rfl⟩ := hrel
    have hs := sumN_range Q k
    by_cases hlt : k < 128
    · have hd := rdigit_any Q sp9 32 cap9 k wr hSl (by omega) (by omega) hS8 o9.bytes
      have hdr := digN_range Q k
      have hnx : sumN Q k + (3 - digN Q k) = sumN Q (k + 1) := rfl
      have hnx2 : sumN Q k + 3 - digN Q k = sumN Q (k + 1) := by omega
      go_wp2_with (go_at_call 64; (with_reducible refine Calls.mono hd ?_); rintro e w10 ⟨rfl, rfl⟩)
      go_roundw
      case rel => exact ⟨k + 1, by omega, by first | rw [← hnx2] | (rw [← hnx2]; go_num), by go_num, by first | rfl | trivial⟩
      case measure => simp [intOf]; omega
    · obtain rfl : k = 128 := by omega
      simp only [show ((128 : Nat) : Int) = 128 from rfl]
      have hr2 := rtwo_any Q (64 * sumN Q 128) (.slice sp9 32 cap9) wr C o9 (by omega) hs9'
      have hfl : Q ++ n2 (64 * sumN Q 128) = fullL Q := rfl
      rw [hfl] at hr2
      have hF8 := fullL_in8 Q hS8
      have hFl : (fullL Q).length = 34 := by unfold fullL; rw [List.length_append, hSl]; rfl
      have hck0 : IntKind.i64.wrap (64 * sumN Q 128) = 64 * sumN Q 128 := by rw [IntKind.wrap_i64]; omega
      have hdq : digsL Q = (List.range 133).map (digN (fullL Q)) := rfl
      generalize fullL Q = FQ at *
      go_upto_region 9 with (go_at_call 41; (with_reducible refine Calls.mono hr2 ?_); rintro e w11 ⟨sp11, cap11, rfl, o11, b11, _, hs11⟩; simp only [hSl, show (32 : Nat) + 2 = 34 from rfl] at o11 ⊢)
      have y1 := (a1.below b11 (by omega)).alloc (.cells (v64 (zer 133)) 69)
      have y3 := Row.new w11 69 (v64 (zer 133))
      have yb := (ab.trans (b11.mono (by have := ab.size; omega))).alloc (by have := ab.size; omega) (.cells (v64 (zer 133)) 69)
      have yo := o11.alloc (.cells (v64 (zer 133)) 69)
      obtain ⟨gA, hgA⟩ : ∃ gA, gA = w11.heap.size := ⟨_, rfl⟩
      have hgl : w.heap.size + 1 < gA := by omega
      have hown : some gA ≠ (Value.slice sp11 34 cap11).ownBlock := by rw [hgA]; exact own_lt o11 (Nat.le_refl _)
      go_wp2
      rw [← hgA] at y3 ⊢
      generalize w11.alloc (.cells (v64 (zer 133)) 69) = w12 at y1 y3 yb yo ⊢
      clear hgA a1 ab o11 b11 hs11 hr2
      go_loopw [14] (fun v wr => ∃ k : Nat, k ≤ 133 ∧ v = .int .i64 (k : Int) ∧ Row wr (w.heap.size + 1) 69 (v64 (zer 133)) ∧ Own8 wr C 5 (.slice sp11 34 cap11) FQ ∧ Row wr gA 69 (v64 ((List.range k).map (digN FQ) ++ List.replicate (133 - k) 0)) ∧ Below w.heap.size w wr) (fun v _ => 133 - (intOf v).toNat)
      case atStart => exact ⟨0, by omega, rfl, y1, yo, y3, yb⟩
      case round =>
        clear y1 yo y3 yb
        obtain ⟨k, hk, rfl, z1, z2, z3, zb⟩ := hrel
        by_cases hlt : k < 133
        · have hd := rdigit_any FQ sp11 34 cap11 k wr hFl (by omega) (by omega) hF8 z2.bytes
          have hpre := digsL_prefix FQ k hlt
          have hll : ((List.range k).map (digN FQ) ++ List.replicate (133 - k) 0).length = 133 := by simp; omega
          generalize (List.range k).map (digN FQ) ++ List.replicate (133 - k) 0 = A at *
          have c2 : wr.cell? ⟨gA, k, none⟩ = some _ := z3.cell64 (by omega)
          have f2 : wr.frozen? ⟨gA, k, none⟩ = false := z3.frozen
          go_wp2_with (go_at_call 64; (with_reducible refine Calls.mono hd ?_); rintro e w13 ⟨rfl, rfl⟩)
          go_roundw
          case rel => exact ⟨k + 1, by omega, by go_num, z1.setOther (by show w.heap.size + 1 ≠ gA; omega) _, z2.setOther hown _, by rw [← hpre]; exact z3.set64 k _, zb.setCell (by show w.heap.size ≤ gA; omega) _⟩
          case measure => simp [intOf]; omega
        · obtain rfl : k = 133 := by omega
          have z3' : Row wr gA 69 (v64 ((List.range 133).map (digN FQ))) := by simpa using z3
          clear z3
          have hll : ((List.range 133).map (digN FQ)).length = 133 := by simp
          have hi : (Tryd.prog.info? 69).map (·.size) = some (v64 ((List.range 133).map (digN FQ))).size := by rw [v64_size, hll]; kernel_rfl
          generalize (List.range 133).map (digN FQ) = A at *
          have hold : (v64 (zer 133)).size = (v64 A).size := by rw [v64_size, v64_size, hll, zer_len]
          go_wp2_with (first | (refine wpList_load_row (by rfl) 69 (.tmp 13) (by rfl) gA (by rfl) 69 (v64 A) (0, 0) _ z3' Tryd.underlying69 rfl hi ?_) | (refine store_row0 69 (.tmp 8) (.tmp 51) (by rfl) (by rfl) (by rfl) (w.heap.size + 1) (v64 A) (by rfl) (by rfl) 69 _ z1 hi hold (v64_one _) ?_))
          exact bodyPost_ret (results_cell_row Tryd.results42 _ _ (w.heap.size + 1) 69 (v64 A) (0, 0) _ rfl (z1.setRow _) Tryd.underlying69 rfl hi) rfl ⟨by rw [hdq], below_setRow zb (by omega) _⟩
end Go.Proofs.YtoebnkepeledmaaDoor
