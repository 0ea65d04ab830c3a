/- wire.Parse: the error, or the message, of any bytes that are not more than 2^38. -/
import Derived.Test.YtcdmjjlbeifgjaaRpart2
import Derived.Test.YtcdmjjlbeifgjaaPmodel
import Derived.Test.YtcdmjjlbeifgjaaEncMath
import Derived.Test.YtcdmjjlbeifgjaaEncode
import Derived.Laws.ResultCell
namespace Go.Proofs.Ytcdmjjlbeifgjaa
open Go.RowKit

theorem results_row_tmp {P : Program} {fn : Func} {p u : Tmp} {ty : TypeId} (h : fn.results = #[.cell p ty, .tmp u]) (tmps : Array Value) (w : World) (g : Nat) (t : TypeId) (cs : Array Value) (d : TypeDesc)
    (hp : tmps.getD p undef = .pointer (some ⟨g, 0, none⟩)) (hg : Row w g t cs)
    (hu : P.underlying ty = some d) (hd : (match d with | .struct _ | .array _ _ => true | _ => false) = true) (hi : (P.info? ty).map (·.size) = some cs.size) :
    (results fn tmps).run P w = .ok (.tuple #[.agg cs, tmps.getD u undef]) w := by
  rw [results_cell_tmp h, hp]
  simp [asAddr, run_loadVar_row w g t ty cs (0, 0) d hg hu hd hi]
theorem litK : (#[.int .i64 0, .int .i64 0, .int .i64 0, .slice none 0 0, .bool false, .int .u8 0, .int .u8 0, .int .u8 0, .int .u8 0, .int .u8 0, .int .u8 0, .int .u8 0, .int .u8 0, .int .u8 0, .int .u8 0, .int .u8 0, .int .u8 0, .int .u8 0, .int .u8 0, .int .u8 0, .int .u8 0, .int .u8 0, .int .u8 0, .int .u8 0, .int .u8 0, .int .u8 0, .int .u8 0, .int .u8 0, .int .u8 0, .int .u8 0, .int .u8 0, .int .u8 0, .int .u8 0, .int .u8 0, .int .u8 0, .int .u8 0, .int .u8 0, .slice none 0 0, .int .i64 0, .int .i64 0] : Array Value) = mc (mK 0) none 0 none 0 := rfl
theorem OwnI.fr2 {w w' : World} {B g h : Nat} {e t t' : TypeId} {v : Value} {l : List Int} {vs vs' : Array Value} (ho : OwnI w B e v l) (hr : Row w g t vs) (hr' : Row w h t' vs') (hte : t ≠ e) (hte' : t' ≠ e) (hf : Fr [g, h] w w') : OwnI w' B e v l := by
  obtain ⟨hl, ho⟩ := ho
  refine ⟨hl, ?_⟩
  rcases ho with ho | ⟨g', cap', cur, hv, hg, hh, r⟩
  · exact .inl ho
  · refine .inr ⟨g', cap', cur, hv, hg, ?_, r⟩
    have hne : g' ≠ g := (show Row w g' e cur from hh).ne hr (Ne.symm hte)
    have hne' : g' ≠ h := (show Row w g' e cur from hh).ne hr' (Ne.symm hte')
    rw [hf.block g' (Row.lt (t := e) (vs := cur) hh) (by simp [hne, hne'])]; exact hh
/-- What Parse answers: a message of its own, and an error. -/
def Said (bs : List Int) (w : World) (e : Ending) (w' : World) : Prop := ∃ lp lc dp dc, e = .returned (.tuple #[.agg (mc (parM bs) lp lc dp dc), .int .i64 (parE bs)]) ∧ OwnI w' w.heap.size 3 (.slice lp (parM bs).list.length lc) (parM bs).list ∧ Own8 w' w.heap.size 5 (.slice dp (parM bs).data.length dc) (parM bs).data ∧ (parM bs).key.length = 32 ∧ Below w.heap.size w w'

set_option maxRecDepth 20000 in
set_option maxHeartbeats 1000000 in
theorem parse_nil (p : Option Addr) (c : Nat) (w : World) : Calls Try.prog 15 #[.slice p 0 c] w (Said [] w) := by
  have hR := Row.new w 28 (mc (mK 0) none 0 none 0)
  go_enter Try.func15, Try.ntmps15
  go_upto_region 1 with (fail)
  rw [litK]
  go_wp2_with (first | (refine store_row0 28 (.tmp 2) (.tmp 14) (by rfl) (by rfl) (by rfl) w.heap.size (mc (mK 0) none 0 none 0) (by rfl) (by rfl) 28 (mc (mK 0) none 0 none 0) hR ?hi ?hold mc_one ?_; (case hi => rw [mc_size rfl]; exact info28); (case hold => rfl)))
  exact bodyPost_ret (results_row_tmp Try.results15 _ _ w.heap.size 28 (mc (mK 0) none 0 none 0) _ rfl (hR.setRow _) Try.underlying28 rfl (by rw [mc_size rfl]; exact info28)) rfl ⟨none, 0, none, 0, rfl, OwnI.nil _ _ _, World.ownsRow_nil _ _ _ _, rfl, below_setRow ((Below.refl _ _).alloc (Nat.le_refl _) _) (Nat.le_refl _) _⟩

set_option maxRecDepth 20000 in
set_option maxHeartbeats 1000000 in
theorem parse_cons (k : Int) (t : List Int) (p : Option Addr) (c : Nat) (w : World) (hby : Bytes w p (k :: t)) (hl : t.length ≤ 274877906944) (hy : ∀ x ∈ k :: t, 0 ≤ x ∧ x < 256) (hpn : p = none → c = 0) (hc : (k :: t).length ≤ c) :
    Calls Try.prog 15 #[.slice p (k :: t).length c] w (Said (k :: t) w) := by
  obtain ⟨b, o, rfl, hcl⟩ := hby (by simp)
  have hk0 : w.cell? ⟨b, o, none⟩ = some (.int .u8 k) := by
    have := hcl 0 (by simp)
    simpa [gi] using this
  have hblt := block_lt_of_cell hk0
  simp only at hblt
  have hkr := hy k (by simp)
  have hadv : Bytes w (some ⟨b, o + 1, none⟩) t := by simpa [Addr.add] using hby.adv 1
  have hrow := fun w1 => rowOf_any k w1
  simp only [List.length_cons] at hc ⊢
  have hB1 : Below w.heap.size w (w.alloc (.cells (mc (mK 0) none 0 none 0) 28)) := (Below.refl _ _).alloc (Nat.le_refl _) _
  have hR0 := Row.new w 28 (mc (mK 0) none 0 none 0)
  have hk1 : (w.alloc (.cells (mc (mK 0) none 0 none 0) 28)).cell? ⟨b, o, none⟩ = some (.int .u8 k) := by rw [hB1.cell (p := ⟨b, o, none⟩) hblt]; exact hk0
  clear hcl
  go_enter Try.func15, Try.ntmps15
  go_upto_region 1 with (fail)
  rw [litK]
  generalize w.alloc (.cells (mc (mK 0) none 0 none 0) 28) = W1 at *
  have hlt1 := hR0.lt
  have hM := (Row.new W1 28 (mc (mK 0) none 0 none 0)).setRow (mc (mK k) none 0 none 0)
  have hR1 := (hR0.alloc (.cells (mc (mK 0) none 0 none 0) 28)).setRowOther (g := W1.heap.size) (by omega) (mc (mK k) none 0 none 0)
  have hB2 : Below w.heap.size w ((W1.alloc (.cells (mc (mK 0) none 0 none 0) 28)).setRow W1.heap.size (mc (mK k) none 0 none 0)) := below_setRow (hB1.alloc (by omega) _) (by omega) _
  have hlt2 := hM.lt
  go_upto_region 4 with (first | (refine store_row0 28 (.tmp 4) (.tmp 19) (by rfl) (by rfl) (by rfl) W1.heap.size (mc (mK k) none 0 none 0) (by rfl) (by rfl) 28 (mc (mK 0) none 0 none 0) ?hrow ?hi ?hold mc_one ?_; (case hrow => exact Row.new W1 28 _); (case hi => rw [mc_size rfl]; exact info28); (case hold => rfl)))
  rw [litK]
  generalize (W1.alloc (.cells (mc (mK 0) none 0 none 0) 28)).setRow W1.heap.size (mc (mK k) none 0 none 0) = W2 at *
  have hc0 : W2.cell? ⟨W1.heap.size, 0, none⟩ = some (.int .i64 k) := hM.cell.trans mc0
  cases hro : rowOf k with
  | none =>
    simp only [hro, Option.getD_none, Option.isSome_none, Rowed] at hrow
    have hE : parE (k :: t) = 3 := by simp [parE, hro]
    have hMm : parM (k :: t) = mK 0 := by simp [parM, hro]
    go_wp2_with (first | (go_at_call 19; (with_reducible refine Calls.mono (hrow _) ?_); rintro e w3 ⟨sp, cap, rfl, ho3, hb3⟩; have hR3 := hR1.below hb3 hR1.lt) | (refine store_row0 28 (.tmp 2) (.tmp 28) (by rfl) (by rfl) (by rfl) w.heap.size (mc (mK 0) none 0 none 0) (by rfl) (by rfl) 28 (mc (mK 0) none 0 none 0) hR3 ?hi ?hold mc_one ?_; (case hi => rw [mc_size rfl]; exact info28); (case hold => rfl)))
    exact bodyPost_ret (results_row_tmp Try.results15 _ _ w.heap.size 28 (mc (mK 0) none 0 none 0) _ rfl (hR3.setRow _) Try.underlying28 rfl (by rw [mc_size rfl]; exact info28)) rfl (by unfold Said; rw [hE, hMm]; exact ⟨none, 0, none, 0, rfl, OwnI.nil _ _ _, World.ownsRow_nil _ _ _ _, rfl, below_setRow (hB2.trans (hb3.mono hB2.size)) (Nat.le_refl _) _⟩)
  | some r =>
    simp only [hro, Option.getD_some, Option.isSome_some, Rowed] at hrow
    have hp7 := rowOf_parts _ _ hro
    have hrl := rowOf_len k
    rw [hro, Option.getD_some] at hrl
    have hEp : Hid (parE (k :: t) = if rowRE r t = 0 then (if 0 < (rowRR r t).length then 9 else 0) else rowRE r t) := by show _ = _; simp [parE, hro]
    have hMp : Hid (parM (k :: t) = if parE (k :: t) = 0 then rowRM r t (mK k) else mK 0) := by show _ = _; simp [parM, hro]
    clear hro hk1 hk0 hB1 hby
    by_cases hc1 : c = 1
    · subst hc1
      have htz : t = [] := List.eq_nil_of_length_eq_zero (by omega)
      go_upto_region 8 with (first | (go_at_call 19; (with_reducible refine Calls.mono (hrow _) ?_); rintro e w3 ⟨sp, cap, rfl, ho3, hb3⟩; have hR3 := hR1.below hb3 hR1.lt; have hM3 := hM.below hb3 hM.lt; have hB3 := hB2.trans (hb3.mono hB2.size)))
      have hRd : Rd w (w3.alloc (.cells #[.slice (some ⟨b, o, none⟩) 0 0] 64)) w3.heap.size t := by rw [htz]; exact ⟨hB3.size, some ⟨b, o, none⟩, 0, Row.new _ _ _, Bytes.nil _ _, Nat.le_refl _, fun h => by cases h⟩
      clear htz
      have hR4 := hR3.alloc (.cells #[.slice (some ⟨b, o, none⟩) 0 0] 64)
      have hM4 := hM3.alloc (.cells #[.slice (some ⟨b, o, none⟩) 0 0] 64)
      have hB4 := hB3.alloc hB3.size (.cells #[.slice (some ⟨b, o, none⟩) 0 0] 64)
      have ho4 := ho3.alloc (.cells #[.slice (some ⟨b, o, none⟩) 0 0] 64)
      have hs3 := hb3.size
      have hg3 : w3.heap.size < (w3.alloc (.cells #[.slice (some ⟨b, o, none⟩) 0 0] 64)).heap.size := by simp
      clear hR3 hM3 ho3 hb3 hR1 hM hc0 hrow hadv hR0
      generalize w3.alloc (.cells #[.slice (some ⟨b, o, none⟩) 0 0] 64) = W4 at *
      go_wp2
      go_loopw [34] (fun i wr => ∃ n : Nat, i = .int .i64 n ∧ n ≤ r.length ∧ rowRE (r.take n) t = 0 ∧ PM wr w.heap.size W1.heap.size (rowRM (r.take n) t (mK k)) ∧ Rd w wr w3.heap.size (rowRR (r.take n) t) ∧ Row wr w.heap.size 28 (mc (mK 0) none 0 none 0) ∧ OwnI wr W2.heap.size 50 (.slice sp r.length cap) r ∧ Below w.heap.size w wr ∧ w3.heap.size < wr.heap.size) (fun i _ => r.length - (intOf i).toNat)
      case atStart => exact ⟨0, rfl, by omega, rfl, ⟨by omega, none, 0, none, 0, hM4, rfl, OwnI.nil _ _ _, World.ownsRow_nil _ _ _ _⟩, hRd, hR4, ho4, hB4, hg3⟩
      case round =>
        clear hRd hR4 hM4 hB4 ho4 hg3
        obtain ⟨n, rfl, hn, hok, hPM, hRd, hR5, ho5, hB5, hg5⟩ := hrel
        by_cases hlt : n < r.length
        · obtain ⟨bb, oo, hspe, hcl⟩ := ho5.ints (by omega)
          have g1 := hcl n hlt
          have hpk := hp7 _ (gi_mem r n hlt)
          obtain ⟨d, hd⟩ := rowRR_drop (r.take n) t
          have hyl : ∀ x ∈ rowRR (r.take n) t, 0 ≤ x ∧ x < 256 := fun x hx => by rw [hd] at hx; exact hy x (List.mem_cons_of_mem _ (List.mem_of_mem_drop hx))
          have hll : (rowRR (r.take n) t).length ≤ 549755813888 := by rw [hd, List.length_drop]; omega
          have hpart := rpart_any (gi r n) hpk (rowRR (r.take n) t) (rowRM (r.take n) t (mK k)) w wr w3.heap.size W1.heap.size hRd hB5 hll hyl hg5 hPM
          have htk := take_gi r n hlt
          have hsp2 := split_gi r n hlt
          have h1 := rowRE_snoc (r.take n) t (gi r n) hok
          have h2 := rowRR_snoc (r.take n) t (gi r n)
          have h3 := rowRM_snoc (r.take n) t (gi r n) (mK k)
          have h4 := rowRE_stop (r.take n) (r.drop (n + 1)) t (gi r n) hok
          rw [← htk] at h1 h2 h3
          rw [← hsp2] at h4
          have hrg := hRd
          obtain ⟨_, _, _, hrg, _⟩ := hrg
          obtain ⟨_, _, _, _, _, hmg, _⟩ := hPM
          have h1' : Hid (rowRE (r.take (n + 1)) t = pRE (gi r n) (rowRR (r.take n) t)) := h1
          have h2' : Hid (rowRR (r.take (n + 1)) t = pRR (gi r n) (rowRR (r.take n) t)) := h2
          have h3' : Hid (rowRM (r.take (n + 1)) t (mK k) = pRM (gi r n) (rowRR (r.take n) t) (rowRM (r.take n) t (mK k))) := h3
          have h4' : Hid (pRE (gi r n) (rowRR (r.take n) t) ≠ 0 → rowRE r t = pRE (gi r n) (rowRR (r.take n) t)) := h4
          have hnw : w.heap.size ∉ [w3.heap.size, W1.heap.size] := by simp; omega
          clear h1 h2 h3 h4 hd hyl hll hcl htk hsp2 hok hRd
          subst hspe
          generalize pRM (gi r n) (rowRR (r.take n) t) (rowRM (r.take n) t (mK k)) = m2 at *
          generalize pRR (gi r n) (rowRR (r.take n) t) = l2 at *
          generalize pRE (gi r n) (rowRR (r.take n) t) = E1 at *
          by_cases hz : E1 = 0
          · subst hz
            clear h4'
            go_wp2_with (go_at_call 28; (with_reducible refine Calls.mono (hpart) ?_); rintro e w6 ⟨rfl, hF6, hp6⟩)
            obtain ⟨hPM6, hRd6⟩ := hp6 trivial
            go_roundw
            case rel => exact ⟨n + 1, by go_num, by omega, h1'.out, by rw [h3'.out]; exact hPM6, by rw [h2'.out]; exact hRd6, hR5.fr hF6 hnw, ho5.fr2 hrg hmg (by decide) (by decide) hF6, hB5.trans (hF6.below (fun x hx => by simp at hx; omega) hB5.size), Nat.lt_of_lt_of_le hg5 hF6.size⟩
            case measure => simp [intOf]; omega
          · have hz2 : Hid (rowRE r t = E1) := h4'.out hz
            have hnz : (E1 != 0) = true := by simpa using hz
            have hz3 : Hid (E1 ≠ 0) := hz
            clear h4' hz
            go_wp2_with (first | (go_at_call 28; (with_reducible refine Calls.mono (hpart) ?_); rintro e w6 ⟨rfl, hF6, hp6⟩; have hR6 := hR5.fr hF6 hnw) | (refine store_row0 28 (.tmp 2) (.tmp 42) (by rfl) (by rfl) (by rfl) w.heap.size (mc (mK 0) none 0 none 0) (by rfl) (by rfl) 28 (mc (mK 0) none 0 none 0) hR6 ?hi ?hold mc_one ?_; (case hi => rw [mc_size rfl]; exact info28); (case hold => rfl)))
            have hE0 : parE (k :: t) = E1 := by rw [hEp.out, hz2.out, if_neg hz3.out]
            have hM0 : parM (k :: t) = mK 0 := by rw [hMp.out, hE0, if_neg hz3.out]
            exact bodyPost_ret (results_row_tmp Try.results15 _ _ w.heap.size 28 (mc (mK 0) none 0 none 0) _ rfl (hR6.setRow _) Try.underlying28 rfl (by rw [mc_size rfl]; exact info28)) rfl (by unfold Said; rw [hE0, hM0]; exact ⟨none, 0, none, 0, rfl, OwnI.nil _ _ _, World.ownsRow_nil _ _ _ _, rfl, below_setRow (hB5.trans (hF6.below (fun x hx => by simp at hx; omega) hB5.size)) (Nat.le_refl _) _⟩)
        · obtain rfl : n = r.length := by omega
          rw [List.take_length] at hok hPM hRd
          obtain ⟨_, p5, c5, hrg, _⟩ := hRd
          have hcg : wr.cell? ⟨w3.heap.size, 0, none⟩ = some (.slice p5 (rowRR r t).length c5) := hrg.cell
          have hok' : Hid (rowRE r t = 0) := hok
          clear hok hlt
          by_cases h0 : 0 < (rowRR r t).length
          · have hE0 : parE (k :: t) = 9 := by rw [hEp.out, hok'.out, if_pos rfl, if_pos h0]
            have hM0 : parM (k :: t) = mK 0 := by rw [hMp.out, hE0]; rfl
            have hR6 := hR5
            generalize (rowRR r t).length = ln at *
            clear hPM hE0 hM0
            go_wp2_with (first | (refine store_row0 28 (.tmp 2) (.tmp 49) (by rfl) (by rfl) (by rfl) w.heap.size (mc (mK 0) none 0 none 0) (by rfl) (by rfl) 28 (mc (mK 0) none 0 none 0) hR6 ?hi ?hold mc_one ?_; (case hi => rw [mc_size rfl]; exact info28); (case hold => rfl)))
            have hE0 : parE (k :: t) = 9 := by rw [hEp.out, hok'.out, if_pos rfl, if_pos h0]
            have hM0 : parM (k :: t) = mK 0 := by rw [hMp.out, hE0]; rfl
            exact bodyPost_ret (results_row_tmp Try.results15 _ _ w.heap.size 28 (mc (mK 0) none 0 none 0) _ rfl (hR6.setRow _) Try.underlying28 rfl (by rw [mc_size rfl]; exact info28)) rfl (by unfold Said; rw [hE0, hM0]; exact ⟨none, 0, none, 0, rfl, OwnI.nil _ _ _, World.ownsRow_nil _ _ _ _, rfl, below_setRow hB5 (Nat.le_refl _) _⟩)
          · have h0' : (rowRR r t).length = 0 := by omega
            have hEz : Hid (parE (k :: t) = 0) := by show _ = _; rw [hEp.out, hok'.out, if_pos rfl, if_neg h0]
            have hMz : Hid (parM (k :: t) = rowRM r t (mK k)) := by show _ = _; rw [hMp.out, hEz.out, if_pos rfl]
            obtain ⟨_, lp5, lc5, dp5, dc5, hmg, hkm, hL5, hD5⟩ := hPM
            clear hEp hMp hok'
            rw [h0'] at hcg
            clear h0 h0' hrg
            generalize rowRM r t (mK k) = m5 at *
            go_wp2_with (first | (refine load_rowW ?hw 28 (.tmp 4) (by rfl) W1.heap.size (by rfl) 28 (mc m5 lp5 lc5 dp5 dc5) (0, 0) _ hmg Try.underlying28 rfl ?hi ?_; (case hw => rfl); (case hi => rw [mc_size hkm]; exact info28)) | (refine store_row0 28 (.tmp 2) (.tmp 50) (by rfl) (by rfl) (by rfl) w.heap.size (mc m5 lp5 lc5 dp5 dc5) (by rfl) (by rfl) 28 (mc (mK 0) none 0 none 0) hR5 ?hi ?hold mc_one ?_; (case hi => rw [mc_size hkm]; exact info28); (case hold => rw [mc_size hkm, mc_size rfl])))
            exact bodyPost_ret (results_row_tmp Try.results15 _ _ w.heap.size 28 (mc m5 lp5 lc5 dp5 dc5) _ rfl (hR5.setRow _) Try.underlying28 rfl (by rw [mc_size hkm]; exact info28)) rfl (by unfold Said; rw [hEz.out, hMz.out]; exact ⟨lp5, lc5, dp5, dc5, rfl, hL5.keepRow hR5 (by decide) _, hD5.keepRow hR5 (by decide) _, hkm, below_setRow hB5 (Nat.le_refl _) _⟩)
    · go_upto_region 8 with (first | (go_at_call 19; (with_reducible refine Calls.mono (hrow _) ?_); rintro e w3 ⟨sp, cap, rfl, ho3, hb3⟩; have hR3 := hR1.below hb3 hR1.lt; have hM3 := hM.below hb3 hM.lt; have hB3 := hB2.trans (hb3.mono hB2.size)))
      have hRd : Rd w (w3.alloc (.cells #[.slice (some ⟨b, o + 1, none⟩) t.length (c - 1)] 64)) w3.heap.size t := ⟨hB3.size, some ⟨b, o + 1, none⟩, c - 1, Row.new _ _ _, hadv, by omega, fun h => by cases h⟩
      have hR4 := hR3.alloc (.cells #[.slice (some ⟨b, o + 1, none⟩) t.length (c - 1)] 64)
      have hM4 := hM3.alloc (.cells #[.slice (some ⟨b, o + 1, none⟩) t.length (c - 1)] 64)
      have hB4 := hB3.alloc hB3.size (.cells #[.slice (some ⟨b, o + 1, none⟩) t.length (c - 1)] 64)
      have ho4 := ho3.alloc (.cells #[.slice (some ⟨b, o + 1, none⟩) t.length (c - 1)] 64)
      have hs3 := hb3.size
      have hg3 : w3.heap.size < (w3.alloc (.cells #[.slice (some ⟨b, o + 1, none⟩) t.length (c - 1)] 64)).heap.size := by simp
      clear hR3 hM3 ho3 hb3 hR1 hM hc0 hrow hadv hR0
      generalize w3.alloc (.cells #[.slice (some ⟨b, o + 1, none⟩) t.length (c - 1)] 64) = W4 at *
      go_wp2
      go_loopw [34] (fun i wr => ∃ n : Nat, i = .int .i64 n ∧ n ≤ r.length ∧ rowRE (r.take n) t = 0 ∧ PM wr w.heap.size W1.heap.size (rowRM (r.take n) t (mK k)) ∧ Rd w wr w3.heap.size (rowRR (r.take n) t) ∧ Row wr w.heap.size 28 (mc (mK 0) none 0 none 0) ∧ OwnI wr W2.heap.size 50 (.slice sp r.length cap) r ∧ Below w.heap.size w wr ∧ w3.heap.size < wr.heap.size) (fun i _ => r.length - (intOf i).toNat)
      case atStart => exact ⟨0, rfl, by omega, rfl, ⟨by omega, none, 0, none, 0, hM4, rfl, OwnI.nil _ _ _, World.ownsRow_nil _ _ _ _⟩, hRd, hR4, ho4, hB4, hg3⟩
      case round =>
        clear hRd hR4 hM4 hB4 ho4 hg3
        obtain ⟨n, rfl, hn, hok, hPM, hRd, hR5, ho5, hB5, hg5⟩ := hrel
        by_cases hlt : n < r.length
        · obtain ⟨bb, oo, hspe, hcl⟩ := ho5.ints (by omega)
          have g1 := hcl n hlt
          have hpk := hp7 _ (gi_mem r n hlt)
          obtain ⟨d, hd⟩ := rowRR_drop (r.take n) t
          have hyl : ∀ x ∈ rowRR (r.take n) t, 0 ≤ x ∧ x < 256 := fun x hx => by rw [hd] at hx; exact hy x (List.mem_cons_of_mem _ (List.mem_of_mem_drop hx))
          have hll : (rowRR (r.take n) t).length ≤ 549755813888 := by rw [hd, List.length_drop]; omega
          have hpart := rpart_any (gi r n) hpk (rowRR (r.take n) t) (rowRM (r.take n) t (mK k)) w wr w3.heap.size W1.heap.size hRd hB5 hll hyl hg5 hPM
          have htk := take_gi r n hlt
          have hsp2 := split_gi r n hlt
          have h1 := rowRE_snoc (r.take n) t (gi r n) hok
          have h2 := rowRR_snoc (r.take n) t (gi r n)
          have h3 := rowRM_snoc (r.take n) t (gi r n) (mK k)
          have h4 := rowRE_stop (r.take n) (r.drop (n + 1)) t (gi r n) hok
          rw [← htk] at h1 h2 h3
          rw [← hsp2] at h4
          have hrg := hRd
          obtain ⟨_, _, _, hrg, _⟩ := hrg
          obtain ⟨_, _, _, _, _, hmg, _⟩ := hPM
          have h1' : Hid (rowRE (r.take (n + 1)) t = pRE (gi r n) (rowRR (r.take n) t)) := h1
          have h2' : Hid (rowRR (r.take (n + 1)) t = pRR (gi r n) (rowRR (r.take n) t)) := h2
          have h3' : Hid (rowRM (r.take (n + 1)) t (mK k) = pRM (gi r n) (rowRR (r.take n) t) (rowRM (r.take n) t (mK k))) := h3
          have h4' : Hid (pRE (gi r n) (rowRR (r.take n) t) ≠ 0 → rowRE r t = pRE (gi r n) (rowRR (r.take n) t)) := h4
          have hnw : w.heap.size ∉ [w3.heap.size, W1.heap.size] := by simp; omega
          clear h1 h2 h3 h4 hd hyl hll hcl htk hsp2 hok hRd
          subst hspe
          generalize pRM (gi r n) (rowRR (r.take n) t) (rowRM (r.take n) t (mK k)) = m2 at *
          generalize pRR (gi r n) (rowRR (r.take n) t) = l2 at *
          generalize pRE (gi r n) (rowRR (r.take n) t) = E1 at *
          by_cases hz : E1 = 0
          · subst hz
            clear h4'
            go_wp2_with (go_at_call 28; (with_reducible refine Calls.mono (hpart) ?_); rintro e w6 ⟨rfl, hF6, hp6⟩)
            obtain ⟨hPM6, hRd6⟩ := hp6 trivial
            go_roundw
            case rel => exact ⟨n + 1, by go_num, by omega, h1'.out, by rw [h3'.out]; exact hPM6, by rw [h2'.out]; exact hRd6, hR5.fr hF6 hnw, ho5.fr2 hrg hmg (by decide) (by decide) hF6, hB5.trans (hF6.below (fun x hx => by simp at hx; omega) hB5.size), Nat.lt_of_lt_of_le hg5 hF6.size⟩
            case measure => simp [intOf]; omega
          · have hz2 : Hid (rowRE r t = E1) := h4'.out hz
            have hnz : (E1 != 0) = true := by simpa using hz
            have hz3 : Hid (E1 ≠ 0) := hz
            clear h4' hz
            go_wp2_with (first | (go_at_call 28; (with_reducible refine Calls.mono (hpart) ?_); rintro e w6 ⟨rfl, hF6, hp6⟩; have hR6 := hR5.fr hF6 hnw) | (refine store_row0 28 (.tmp 2) (.tmp 42) (by rfl) (by rfl) (by rfl) w.heap.size (mc (mK 0) none 0 none 0) (by rfl) (by rfl) 28 (mc (mK 0) none 0 none 0) hR6 ?hi ?hold mc_one ?_; (case hi => rw [mc_size rfl]; exact info28); (case hold => rfl)))
            have hE0 : parE (k :: t) = E1 := by rw [hEp.out, hz2.out, if_neg hz3.out]
            have hM0 : parM (k :: t) = mK 0 := by rw [hMp.out, hE0, if_neg hz3.out]
            exact bodyPost_ret (results_row_tmp Try.results15 _ _ w.heap.size 28 (mc (mK 0) none 0 none 0) _ rfl (hR6.setRow _) Try.underlying28 rfl (by rw [mc_size rfl]; exact info28)) rfl (by unfold Said; rw [hE0, hM0]; exact ⟨none, 0, none, 0, rfl, OwnI.nil _ _ _, World.ownsRow_nil _ _ _ _, rfl, below_setRow (hB5.trans (hF6.below (fun x hx => by simp at hx; omega) hB5.size)) (Nat.le_refl _) _⟩)
        · obtain rfl : n = r.length := by omega
          rw [List.take_length] at hok hPM hRd
          obtain ⟨_, p5, c5, hrg, _⟩ := hRd
          have hcg : wr.cell? ⟨w3.heap.size, 0, none⟩ = some (.slice p5 (rowRR r t).length c5) := hrg.cell
          have hok' : Hid (rowRE r t = 0) := hok
          clear hok hlt
          by_cases h0 : 0 < (rowRR r t).length
          · have hE0 : parE (k :: t) = 9 := by rw [hEp.out, hok'.out, if_pos rfl, if_pos h0]
            have hM0 : parM (k :: t) = mK 0 := by rw [hMp.out, hE0]; rfl
            have hR6 := hR5
            generalize (rowRR r t).length = ln at *
            clear hPM hE0 hM0
            go_wp2_with (first | (refine store_row0 28 (.tmp 2) (.tmp 49) (by rfl) (by rfl) (by rfl) w.heap.size (mc (mK 0) none 0 none 0) (by rfl) (by rfl) 28 (mc (mK 0) none 0 none 0) hR6 ?hi ?hold mc_one ?_; (case hi => rw [mc_size rfl]; exact info28); (case hold => rfl)))
            have hE0 : parE (k :: t) = 9 := by rw [hEp.out, hok'.out, if_pos rfl, if_pos h0]
            have hM0 : parM (k :: t) = mK 0 := by rw [hMp.out, hE0]; rfl
            exact bodyPost_ret (results_row_tmp Try.results15 _ _ w.heap.size 28 (mc (mK 0) none 0 none 0) _ rfl (hR6.setRow _) Try.underlying28 rfl (by rw [mc_size rfl]; exact info28)) rfl (by unfold Said; rw [hE0, hM0]; exact ⟨none, 0, none, 0, rfl, OwnI.nil _ _ _, World.ownsRow_nil _ _ _ _, rfl, below_setRow hB5 (Nat.le_refl _) _⟩)
          · have h0' : (rowRR r t).length = 0 := by omega
            have hEz : Hid (parE (k :: t) = 0) := by show _ = _; rw [hEp.out, hok'.out, if_pos rfl, if_neg h0]
            have hMz : Hid (parM (k :: t) = rowRM r t (mK k)) := by show _ = _; rw [hMp.out, hEz.out, if_pos rfl]
            obtain ⟨_, lp5, lc5, dp5, dc5, hmg, hkm, hL5, hD5⟩ := hPM
            clear hEp hMp hok'
            rw [h0'] at hcg
            clear h0 h0' hrg
            generalize rowRM r t (mK k) = m5 at *
            go_wp2_with (first | (refine load_rowW ?hw 28 (.tmp 4) (by rfl) W1.heap.size (by rfl) 28 (mc m5 lp5 lc5 dp5 dc5) (0, 0) _ hmg Try.underlying28 rfl ?hi ?_; (case hw => rfl); (case hi => rw [mc_size hkm]; exact info28)) | (refine store_row0 28 (.tmp 2) (.tmp 50) (by rfl) (by rfl) (by rfl) w.heap.size (mc m5 lp5 lc5 dp5 dc5) (by rfl) (by rfl) 28 (mc (mK 0) none 0 none 0) hR5 ?hi ?hold mc_one ?_; (case hi => rw [mc_size hkm]; exact info28); (case hold => rw [mc_size hkm, mc_size rfl])))
            exact bodyPost_ret (results_row_tmp Try.results15 _ _ w.heap.size 28 (mc m5 lp5 lc5 dp5 dc5) _ rfl (hR5.setRow _) Try.underlying28 rfl (by rw [mc_size hkm]; exact info28)) rfl (by unfold Said; rw [hEz.out, hMz.out]; exact ⟨lp5, lc5, dp5, dc5, rfl, hL5.keepRow hR5 (by decide) _, hD5.keepRow hR5 (by decide) _, hkm, below_setRow hB5 (Nat.le_refl _) _⟩)
end Go.Proofs.Ytcdmjjlbeifgjaa
