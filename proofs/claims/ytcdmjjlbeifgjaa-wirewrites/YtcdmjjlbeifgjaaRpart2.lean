/- wire's (*reader).part: the list, the bytes, the key; all parts. -/
import Derived.Test.YtcdmjjlbeifgjaaRpart
namespace Go.Proofs.Ytcdmjjlbeifgjaa
open Go.RowKit

theorem Own8.keepRow {w : World} {B g : Nat} {e t : TypeId} {v : Value} {l : List Int} {vs : Array Value} (h : Own8 w B e v l) (hr : Row w g t vs) (hte : t ≠ e) (cs : Array Value) : Own8 (w.setRow g cs) B e v l := by
  obtain ⟨hl, h⟩ := h
  refine ⟨hl, ?_⟩
  rcases h with h | ⟨g', cap', cur, hv, hg, hh, r⟩
  · exact .inl h
  · refine .inr ⟨g', cap', cur, hv, hg, ?_, r⟩
    have hne : g' ≠ g := (show Row w g' e cur from hh).ne hr (Ne.symm hte)
    rw [setRow_other w g g' cs hne]; exact hh
theorem Fr.setRow {l : List Nat} {a b : World} (h : Fr l a b) {g : Nat} (hp : g ∈ l) (cs : Array Value) : Fr l a (b.setRow g cs) :=
  h.trans ⟨rfl, rfl, rfl, by simp [World.setRow], fun k _ hn => setRow_other b g k cs (fun e => hn (by rw [e]; exact hp))⟩
theorem Rd.setRowOther {w0 w : World} {g : Nat} {l : List Int} (h : Rd w0 w g l) {b : Nat} (hne : g ≠ b) (cs : Array Value) : Rd w0 (w.setRow b cs) g l := by
  obtain ⟨hg, p, c, hr, h1, h2, h3⟩ := h
  exact ⟨hg, p, c, hr.setRowOther hne cs, h1, h2, h3⟩
theorem key_src {w : World} {b o : Nat} {ks : List Int} (h : ∀ j, j < ks.length → w.cell? ⟨b, o + j, none⟩ = some (.int .u8 (gi ks j))) : ∀ j v, (ks.map (Value.int .u8))[j]? = some v → w.cell? ((⟨b, o, none⟩ : Addr).add j) = some v := fun j v hv => by
  have hj : j < ks.length := by have := (List.getElem?_eq_some_iff.1 hv).1; simpa using this
  rw [Addr.add_mid, h j hj, ← hv]; simp [gi, hj]
set_option maxRecDepth 20000 in
set_option maxHeartbeats 1000000 in
theorem rpart2 (l : List Int) (m : M) (w0 w : World) (g gm : Nat) (hR : Rd w0 w g l) (hb : Below w0.heap.size w0 w) (hl : l.length ≤ 549755813888) (hy : ∀ x ∈ l, 0 ≤ x ∧ x < 256) (hgl : g < w.heap.size) (hM : PM w w0.heap.size gm m) :
    Calls Try.prog 28 #[.pointer (some ⟨g, 0, none⟩), .int .i64 2, .pointer (some ⟨gm, 0, none⟩)] w fun e w' => e = .returned (.int .i64 (pRE 2 l)) ∧ Fr [g, gm] w w' ∧ (pRE 2 l = 0 → PM w' w0.heap.size gm (pRM 2 l m) ∧ Rd w0 w' g (pRR 2 l)) := by
  have hx := rlist_any l w0 w g hR hb hl hy hgl
  rw [show pRE 2 l = listRE l from rfl, show pRM 2 l m = { m with list := listRV l } from rfl, show pRR 2 l = l.drop (1 + (numRV 1 l).toNat) from rfl]
  obtain ⟨hgg, _, _, hrg, _⟩ := hR
  obtain ⟨hBm, lp, lc, dp, dc, hMr, hk, hL, hD⟩ := hM
  have hne : gm ≠ g := hMr.ne hrg (by decide)
  obtain ⟨xs, hxs⟩ : ∃ xs, xs = if listRE l = 0 then listRV l else [] := ⟨_, rfl⟩
  rw [← hxs] at hx
  have hx' : Hid (listRE l = 0 → xs = listRV l) := fun h => by rw [hxs, if_pos h]
  have hbs := hb.size
  clear hxs
  generalize listRE l = E at *
  go_enter Try.func28, Try.ntmps28
  go_wp2_with (go_at_call 46; (with_reducible refine Calls.mono (hx) ?_); rintro e w2 ⟨sp, cap, rfl, ho2, hF2, hR2⟩; have hM2 := hMr.fr hF2 (by simpa using hne); have hL2 := hL.fr1 hrg (by decide) hF2; have hD2 := hD.fr1 hrg (by decide) hF2; have hc2 : w2.cell? ⟨gm, 3, none⟩ = _ := hM2.cell.trans mc3; have hf2 := hM2.frozen (j := 3))
  go_ret
  refine ⟨rfl, (hF2.mono (by simp)).setCell (p := ⟨gm, 3, none⟩) (by simp) _, fun h0 => ⟨?_, (hR2 h0).setOther (a := ⟨gm, 3, none⟩) (Ne.symm hne) _⟩⟩
  have hxv := hx'.out h0
  have := hM2.set0 3 (.slice sp xs.length cap)
  rw [mset3 xs _ rfl] at this
  have ho3 : OwnI w2 w0.heap.size 3 (.slice sp xs.length cap) xs := World.ownsRow.mono ho2 hbs
  have ho4 := ho3.keep hM2 (by decide) 3 (u := .slice sp xs.length cap)
  rw [← hxv]
  exact ⟨hBm, sp, cap, dp, dc, this, hk, ho4, hD2.keep hM2 (by decide) 3⟩
set_option maxRecDepth 20000 in
set_option maxHeartbeats 1000000 in
theorem rpart6 (l : List Int) (m : M) (w0 w : World) (g gm : Nat) (hR : Rd w0 w g l) (hb : Below w0.heap.size w0 w) (hl : l.length ≤ 549755813888) (hy : ∀ x ∈ l, 0 ≤ x ∧ x < 256) (_hgl : g < w.heap.size) (hM : PM w w0.heap.size gm m) :
    Calls Try.prog 28 #[.pointer (some ⟨g, 0, none⟩), .int .i64 6, .pointer (some ⟨gm, 0, none⟩)] w fun e w' => e = .returned (.int .i64 (pRE 6 l)) ∧ Fr [g, gm] w w' ∧ (pRE 6 l = 0 → PM w' w0.heap.size gm (pRM 6 l m) ∧ Rd w0 w' g (pRR 6 l)) := by
  have hx := rbytes_any l w0 w g hR hb hl hy
  rw [show pRE 6 l = dataRE l from rfl, show pRM 6 l m = { m with data := dataRV l } from rfl, show pRR 6 l = l.drop (2 + (numRV 2 l).toNat) from rfl]
  obtain ⟨hgg, _, _, hrg, _⟩ := hR
  obtain ⟨hBm, lp, lc, dp, dc, hMr, hk, hL, hD⟩ := hM
  have hne : gm ≠ g := hMr.ne hrg (by decide)
  obtain ⟨xs, hxs⟩ : ∃ xs, xs = if dataRE l = 0 then dataRV l else [] := ⟨_, rfl⟩
  rw [← hxs] at hx
  have hx' : Hid (dataRE l = 0 → xs = dataRV l) := fun h => by rw [hxs, if_pos h]
  have hbs := hb.size
  clear hxs
  generalize dataRE l = E at *
  go_enter Try.func28, Try.ntmps28
  go_wp2_with (go_at_call 48; (with_reducible refine Calls.mono (hx) ?_); rintro e w2 ⟨sp, cap, rfl, ho2, hF2, hR2⟩; have hM2 := hMr.fr hF2 (by simpa using hne); have hL2 := hL.fr1 hrg (by decide) hF2; have hD2 := hD.fr1 hrg (by decide) hF2; have hc2 : w2.cell? ⟨gm, 37, none⟩ = _ := hM2.cell.trans (mc37 hk); have hf2 := hM2.frozen (j := 37))
  go_ret
  refine ⟨rfl, (hF2.mono (by simp)).setCell (p := ⟨gm, 37, none⟩) (by simp) _, fun h0 => ⟨?_, (hR2 h0).setOther (a := ⟨gm, 37, none⟩) (Ne.symm hne) _⟩⟩
  have hxv := hx'.out h0
  have := hM2.set0 37 (.slice sp xs.length cap)
  rw [mset37 hk xs _ rfl] at this
  have ho3 : Own8 w2 w0.heap.size 5 (.slice sp xs.length cap) xs := World.ownsRow.mono ho2 hbs
  have ho4 := ho3.keep hM2 (by decide) 37 (u := .slice sp xs.length cap)
  rw [← hxv]
  exact ⟨hBm, lp, lc, sp, cap, this, hk, hL2.keep hM2 (by decide) 37, ho4⟩
theorem mc_key {m : M} {lp dp : Option Addr} {lc dc : Nat} (hk : m.key.length = 32) (ks : List Int) : ((mc m lp lc dp dc).toList.take 5 ++ (ks.map (Value.int .u8) ++ (mc m lp lc dp dc).toList.drop 37)).toArray = mc { m with key := ks } lp lc dp dc := by
  simp [mc, hk]
set_option maxRecDepth 20000 in
set_option maxHeartbeats 1000000 in
theorem rpart5 (l : List Int) (m : M) (w0 w : World) (g gm : Nat) (hR : Rd w0 w g l) (hb : Below w0.heap.size w0 w) (hl : l.length ≤ 549755813888) (_hy : ∀ x ∈ l, 0 ≤ x ∧ x < 256) (_hgl : g < w.heap.size) (hM : PM w w0.heap.size gm m) :
    Calls Try.prog 28 #[.pointer (some ⟨g, 0, none⟩), .int .i64 5, .pointer (some ⟨gm, 0, none⟩)] w fun e w' => e = .returned (.int .i64 (pRE 5 l)) ∧ Fr [g, gm] w w' ∧ (pRE 5 l = 0 → PM w' w0.heap.size gm (pRM 5 l m) ∧ Rd w0 w' g (pRR 5 l)) := by
  have hR' := hR
  obtain ⟨hgg, _, _, hrg, _⟩ := hR'
  obtain ⟨hBm, lp, lc, dp, dc, hMr, hk, hL, hD⟩ := hM
  have hne : gm ≠ g := hMr.ne hrg (by decide)
  rw [show pRM 5 l m = { m with key := l.take 32 } from rfl, show pRR 5 l = l.drop 32 from rfl]
  by_cases hs : l.length < 32
  · rw [show pRE 5 l = 8 by simp [pRE, hs]]
    have hx := take_short 32 l w0 w g hR hs (by omega)
    rw [show ((32 : Nat) : Int) = 32 from rfl] at hx
    clear hR
    go_enter Try.func28, Try.ntmps28
    go_wp2_with (first | (go_at_call 47; (with_reducible refine Calls.mono (hx) ?_); rintro e w2 ⟨rfl, hw⟩; obtain rfl := hw.symm; clear hw) | (refine wpList_copy_nothing (by rfl) (.tmp 74) (.tmp 75) 25 25 (by rfl) 5 Try.underlying25 ?hsz (some ⟨gm, 5, none⟩) none 32 32 0 0 (by rfl) (by rfl) rfl ?_; (case hsz => kernel_rfl)))
    go_ret
    exact ⟨rfl, Fr.refl _ _, fun h => by cases h⟩
  · rw [show pRE 5 l = 0 by simp [pRE, hs]]
    have hx := take_full 32 l w0 w g hR (by omega) (by omega)
    rw [show ((32 : Nat) : Int) = 32 from rfl] at hx
    have h32 : (l.take 32).length = 32 := by simp; omega
    clear hR
    generalize l.take 32 = ks at *
    go_enter Try.func28, Try.ntmps28
    go_wp2_with (first | (go_at_call 47; (with_reducible refine Calls.mono (hx) ?_); rintro e w2 ⟨p, c, rfl, hby, hnc, hpn, hR2, hF2⟩; have hM2 := hMr.fr hF2 (by simpa using hne); have hL2 := hL.fr1 hrg (by decide) hF2; have hD2 := hD.fr1 hrg (by decide) hF2; have hB2 := Rd.bel hb hF2 hgg; obtain ⟨bb, ob, hpe, hcl⟩ := hby.below hB2 (by omega); subst hpe) | (refine wpList_copy_own (by rfl) (.tmp 74) (.tmp 75) 25 25 (by rfl) 5 Try.underlying25 ?hsz gm 5 32 32 ⟨bb, ob, none⟩ 32 c (by rfl) (by rfl) (mc m lp lc dp dc) 28 hM2 (ks.map (Value.int .u8)) ?hn ?hsrc ?hfit ?h1 ?_; (case hsz => kernel_rfl); (case hn => simp [h32]); (case hsrc => exact (key_src hcl)); (case hfit => rw [mc_size hk]; simp [h32]); (case h1 => intro v hv; obtain ⟨y, _, rfl⟩ := List.mem_map.1 hv; rfl)))
    go_ret
    have hkr := mc_key (lp := lp) (lc := lc) (dp := dp) (dc := dc) hk ks
    rw [hkr]
    exact ⟨rfl, (hF2.mono (by simp)).setRow (by simp) _, fun _ => ⟨⟨hBm, lp, lc, dp, dc, hM2.setRow _, h32, hL2.keepRow hM2 (by decide) _, hD2.keepRow hM2 (by decide) _⟩, hR2.setRowOther (Ne.symm hne) _⟩⟩
theorem rpart_any (p : Int) (hp : 0 ≤ p ∧ p ≤ 7) (l : List Int) (m : M) (w0 w : World) (g gm : Nat) (hR : Rd w0 w g l) (hb : Below w0.heap.size w0 w) (hl : l.length ≤ 549755813888) (hy : ∀ x ∈ l, 0 ≤ x ∧ x < 256) (hgl : g < w.heap.size) (hM : PM w w0.heap.size gm m) :
    Calls Try.prog 28 #[.pointer (some ⟨g, 0, none⟩), .int .i64 p, .pointer (some ⟨gm, 0, none⟩)] w fun e w' => e = .returned (.int .i64 (pRE p l)) ∧ Fr [g, gm] w w' ∧ (pRE p l = 0 → PM w' w0.heap.size gm (pRM p l m) ∧ Rd w0 w' g (pRR p l)) := by
  rcases (by omega : p = 0 ∨ p = 1 ∨ p = 2 ∨ p = 3 ∨ p = 4 ∨ p = 5 ∨ p = 6 ∨ p = 7) with rfl | rfl | rfl | rfl | rfl | rfl | rfl | rfl
  · exact rpart0 l m w0 w g gm hR hb hl hy hgl hM
  · exact rpart1 l m w0 w g gm hR hb hl hy hgl hM
  · exact rpart2 l m w0 w g gm hR hb hl hy hgl hM
  · exact rpart3 l m w0 w g gm hR hb hl hy hgl hM
  · exact rpart4 l m w0 w g gm hR hb hl hy hgl hM
  · exact rpart5 l m w0 w g gm hR hb hl hy hgl hM
  · exact rpart6 l m w0 w g gm hR hb hl hy hgl hM
  · exact rpart7 l m w0 w g gm hR hb hl hy hgl hM
end Go.Proofs.Ytcdmjjlbeifgjaa
