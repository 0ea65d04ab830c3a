/- wire's (*reader).part: what it answers, what is left to be read, and the message behind it. -/
import Derived.Test.YtcdmjjlbeifgjaaRlist
import Derived.Test.YtcdmjjlbeifgjaaRmodel3
import Derived.Test.YtcdmjjlbeifgjaaGood
namespace Go.Proofs.Ytcdmjjlbeifgjaa
open Go.RowKit

theorem OwnI.fr1 {w w' : World} {B g : Nat} {e t : TypeId} {v : Value} {l : List Int} {vs : Array Value} (h : OwnI w B e v l) (hr : Row w g t vs) (hte : t ≠ e) (hf : Fr [g] w w') : OwnI w' B e v l := by
  obtain ⟨hl, h⟩ := h
  refine ⟨hl, ?_⟩
  rcases h with h | ⟨g', cap', cur, hv, hg, hh, r⟩
  · exact .inl h
  · refine .inr ⟨g', cap', cur, hv, hg, ?_, r⟩
    have hne : g' ≠ g := (show Row w g' e cur from hh).ne hr (Ne.symm hte)
    rw [hf.block g' (Row.lt (t := e) (vs := cur) hh) (by simpa using hne)]; exact hh
theorem Own8.fr1 {w w' : World} {B g : Nat} {e t : TypeId} {v : Value} {l : List Int} {vs : Array Value} (h : Own8 w B e v l) (hr : Row w g t vs) (hte : t ≠ e) (hf : Fr [g] w w') : Own8 w' B e v l := by
  obtain ⟨hl, h⟩ := h
  refine ⟨hl, ?_⟩
  rcases h with h | ⟨g', cap', cur, hv, hg, hh, r⟩
  · exact .inl h
  · refine .inr ⟨g', cap', cur, hv, hg, ?_, r⟩
    have hne : g' ≠ g := (show Row w g' e cur from hh).ne hr (Ne.symm hte)
    rw [hf.block g' (Row.lt (t := e) (vs := cur) hh) (by simpa using hne)]; exact hh
/-- A message in the making, at block gm: its list and its bytes are the call's own, from block B on. -/
def PM (w : World) (B gm : Nat) (m : M) : Prop := B ≤ gm ∧ ∃ lp lc dp dc, Row w gm 28 (mc m lp lc dp dc) ∧ m.key.length = 32 ∧ OwnI w B 3 (.slice lp m.list.length lc) m.list ∧ Own8 w B 5 (.slice dp m.data.length dc) m.data

set_option maxRecDepth 20000 in
set_option maxHeartbeats 1000000 in
theorem rpart0 (l : List Int) (m : M) (w0 w : World) (g gm : Nat) (hR : Rd w0 w g l) (hb : Below w0.heap.size w0 w) (hl : l.length ≤ 549755813888) (hy : ∀ x ∈ l, 0 ≤ x ∧ x < 256) (_hgl : g < w.heap.size) (hM : PM w w0.heap.size gm m) :
    Calls Try.prog 28 #[.pointer (some ⟨g, 0, none⟩), .int .i64 0, .pointer (some ⟨gm, 0, none⟩)] w fun e w' => e = .returned (.int .i64 (pRE 0 l)) ∧ Fr [g, gm] w w' ∧ (pRE 0 l = 0 → PM w' w0.heap.size gm (pRM 0 l m) ∧ Rd w0 w' g (pRR 0 l)) := by
  have hx := rpred_any l w0 w g hR hb hl hy
  rw [show pRE 0 l = predRE l from rfl, show pRM 0 l m = { m with pred := predRV l } from rfl, show pRR 0 l = l.drop 1 from rfl]
  obtain ⟨hgg, _, _, hrg, _⟩ := hR
  obtain ⟨hBm, lp, lc, dp, dc, hMr, hk, hL, hD⟩ := hM
  have hne : gm ≠ g := hMr.ne hrg (by decide)
  generalize predRE l = E at *
  generalize predRV l = V at *
  go_enter Try.func28, Try.ntmps28
  go_wp2_with (go_at_call 44; (with_reducible refine Calls.mono (hx) ?_); rintro e w2 ⟨rfl, hF2, hR2⟩; have hM2 := hMr.fr hF2 (by simpa using hne); have hL2 := hL.fr1 hrg (by decide) hF2; have hD2 := hD.fr1 hrg (by decide) hF2; have hc2 : w2.cell? ⟨gm, 2, none⟩ = _ := hM2.cell.trans mc2; have hf2 := hM2.frozen (j := 2))
  go_ret
  refine ⟨rfl, (hF2.mono (by simp)).setCell (p := ⟨gm, 2, none⟩) (by simp) _, fun h0 => ⟨⟨hBm, lp, lc, dp, dc, ?_, hk, hL2.keep hM2 (by decide) 2, hD2.keep hM2 (by decide) 2⟩, (hR2 h0).setOther (a := ⟨gm, 2, none⟩) (Ne.symm hne) _⟩⟩
  have := hM2.set0 2 (.int .i64 V)
  rw [mset2] at this
  exact this
set_option maxRecDepth 20000 in
set_option maxHeartbeats 1000000 in
theorem rpart1 (l : List Int) (m : M) (w0 w : World) (g gm : Nat) (hR : Rd w0 w g l) (hb : Below w0.heap.size w0 w) (hl : l.length ≤ 549755813888) (hy : ∀ x ∈ l, 0 ≤ x ∧ x < 256) (_hgl : g < w.heap.size) (hM : PM w w0.heap.size gm m) :
    Calls Try.prog 28 #[.pointer (some ⟨g, 0, none⟩), .int .i64 1, .pointer (some ⟨gm, 0, none⟩)] w fun e w' => e = .returned (.int .i64 (pRE 1 l)) ∧ Fr [g, gm] w w' ∧ (pRE 1 l = 0 → PM w' w0.heap.size gm (pRM 1 l m) ∧ Rd w0 w' g (pRR 1 l)) := by
  have hx := rnum_any 0 l w0 w g hR hb (by omega) hy
  rw [show pRE 1 l = numRE 0 l from rfl, show pRM 1 l m = { m with node := numRV 0 l } from rfl, show pRR 1 l = l.drop (bsz 0) from rfl]
  obtain ⟨hgg, _, _, hrg, _⟩ := hR
  obtain ⟨hBm, lp, lc, dp, dc, hMr, hk, hL, hD⟩ := hM
  have hne : gm ≠ g := hMr.ne hrg (by decide)
  generalize numRE 0 l = E at *
  generalize numRV 0 l = V at *
  go_enter Try.func28, Try.ntmps28
  go_wp2_with (go_at_call 45; (with_reducible refine Calls.mono (hx) ?_); rintro e w2 ⟨rfl, hF2, hR2⟩; have hM2 := hMr.fr hF2 (by simpa using hne); have hL2 := hL.fr1 hrg (by decide) hF2; have hD2 := hD.fr1 hrg (by decide) hF2; have hc2 : w2.cell? ⟨gm, 1, none⟩ = _ := hM2.cell.trans mc1; have hf2 := hM2.frozen (j := 1))
  go_ret
  refine ⟨rfl, (hF2.mono (by simp)).setCell (p := ⟨gm, 1, none⟩) (by simp) _, fun h0 => ⟨⟨hBm, lp, lc, dp, dc, ?_, hk, hL2.keep hM2 (by decide) 1, hD2.keep hM2 (by decide) 1⟩, (hR2 h0).setOther (a := ⟨gm, 1, none⟩) (Ne.symm hne) _⟩⟩
  have := hM2.set0 1 (.int .i64 V)
  rw [mset1] at this
  exact this
set_option maxRecDepth 20000 in
set_option maxHeartbeats 1000000 in
theorem rpart3 (l : List Int) (m : M) (w0 w : World) (g gm : Nat) (hR : Rd w0 w g l) (hb : Below w0.heap.size w0 w) (hl : l.length ≤ 549755813888) (hy : ∀ x ∈ l, 0 ≤ x ∧ x < 256) (_hgl : g < w.heap.size) (hM : PM w w0.heap.size gm m) :
    Calls Try.prog 28 #[.pointer (some ⟨g, 0, none⟩), .int .i64 3, .pointer (some ⟨gm, 0, none⟩)] w fun e w' => e = .returned (.int .i64 (pRE 3 l)) ∧ Fr [g, gm] w w' ∧ (pRE 3 l = 0 → PM w' w0.heap.size gm (pRM 3 l m) ∧ Rd w0 w' g (pRR 3 l)) := by
  have hx := rnum_any 5 l w0 w g hR hb (by omega) hy
  rw [show pRE 3 l = numRE 5 l from rfl, show pRM 3 l m = { m with done := numRV 5 l == 1 } from rfl, show pRR 3 l = l.drop (bsz 5) from rfl]
  obtain ⟨hgg, _, _, hrg, _⟩ := hR
  obtain ⟨hBm, lp, lc, dp, dc, hMr, hk, hL, hD⟩ := hM
  have hne : gm ≠ g := hMr.ne hrg (by decide)
  generalize numRE 5 l = E at *
  generalize numRV 5 l = V at *
  go_enter Try.func28, Try.ntmps28
  go_wp2_with (go_at_call 45; (with_reducible refine Calls.mono (hx) ?_); rintro e w2 ⟨rfl, hF2, hR2⟩; have hM2 := hMr.fr hF2 (by simpa using hne); have hL2 := hL.fr1 hrg (by decide) hF2; have hD2 := hD.fr1 hrg (by decide) hF2; have hc2 : w2.cell? ⟨gm, 4, none⟩ = _ := hM2.cell.trans mc4; have hf2 := hM2.frozen (j := 4))
  go_ret
  refine ⟨rfl, (hF2.mono (by simp)).setCell (p := ⟨gm, 4, none⟩) (by simp) _, fun h0 => ⟨⟨hBm, lp, lc, dp, dc, ?_, hk, hL2.keep hM2 (by decide) 4, hD2.keep hM2 (by decide) 4⟩, (hR2 h0).setOther (a := ⟨gm, 4, none⟩) (Ne.symm hne) _⟩⟩
  have := hM2.set0 4 (.bool (V == 1))
  rw [mset4] at this
  exact this
set_option maxRecDepth 20000 in
set_option maxHeartbeats 1000000 in
theorem rpart4 (l : List Int) (m : M) (w0 w : World) (g gm : Nat) (hR : Rd w0 w g l) (hb : Below w0.heap.size w0 w) (hl : l.length ≤ 549755813888) (hy : ∀ x ∈ l, 0 ≤ x ∧ x < 256) (_hgl : g < w.heap.size) (hM : PM w w0.heap.size gm m) :
    Calls Try.prog 28 #[.pointer (some ⟨g, 0, none⟩), .int .i64 4, .pointer (some ⟨gm, 0, none⟩)] w fun e w' => e = .returned (.int .i64 (pRE 4 l)) ∧ Fr [g, gm] w w' ∧ (pRE 4 l = 0 → PM w' w0.heap.size gm (pRM 4 l m) ∧ Rd w0 w' g (pRR 4 l)) := by
  have hx := rnum_any 4 l w0 w g hR hb (by omega) hy
  rw [show pRE 4 l = numRE 4 l from rfl, show pRM 4 l m = { m with err := numRV 4 l } from rfl, show pRR 4 l = l.drop (bsz 4) from rfl]
  obtain ⟨hgg, _, _, hrg, _⟩ := hR
  obtain ⟨hBm, lp, lc, dp, dc, hMr, hk, hL, hD⟩ := hM
  have hne : gm ≠ g := hMr.ne hrg (by decide)
  generalize numRE 4 l = E at *
  generalize numRV 4 l = V at *
  go_enter Try.func28, Try.ntmps28
  go_wp2_with (go_at_call 45; (with_reducible refine Calls.mono (hx) ?_); rintro e w2 ⟨rfl, hF2, hR2⟩; have hM2 := hMr.fr hF2 (by simpa using hne); have hL2 := hL.fr1 hrg (by decide) hF2; have hD2 := hD.fr1 hrg (by decide) hF2; have hc2 : w2.cell? ⟨gm, 39, none⟩ = _ := hM2.cell.trans (mc39 hk); have hf2 := hM2.frozen (j := 39))
  go_ret
  refine ⟨rfl, (hF2.mono (by simp)).setCell (p := ⟨gm, 39, none⟩) (by simp) _, fun h0 => ⟨⟨hBm, lp, lc, dp, dc, ?_, hk, hL2.keep hM2 (by decide) 39, hD2.keep hM2 (by decide) 39⟩, (hR2 h0).setOther (a := ⟨gm, 39, none⟩) (Ne.symm hne) _⟩⟩
  have := hM2.set0 39 (.int .i64 V)
  rw [mset39 hk] at this
  exact this
set_option maxRecDepth 20000 in
set_option maxHeartbeats 1000000 in
theorem rpart7 (l : List Int) (m : M) (w0 w : World) (g gm : Nat) (hR : Rd w0 w g l) (hb : Below w0.heap.size w0 w) (hl : l.length ≤ 549755813888) (hy : ∀ x ∈ l, 0 ≤ x ∧ x < 256) (_hgl : g < w.heap.size) (hM : PM w w0.heap.size gm m) :
    Calls Try.prog 28 #[.pointer (some ⟨g, 0, none⟩), .int .i64 7, .pointer (some ⟨gm, 0, none⟩)] w fun e w' => e = .returned (.int .i64 (pRE 7 l)) ∧ Fr [g, gm] w w' ∧ (pRE 7 l = 0 → PM w' w0.heap.size gm (pRM 7 l m) ∧ Rd w0 w' g (pRR 7 l)) := by
  have hx := rnum_any 3 l w0 w g hR hb (by omega) hy
  rw [show pRE 7 l = numRE 3 l from rfl, show pRM 7 l m = { m with lease := numRV 3 l } from rfl, show pRR 7 l = l.drop (bsz 3) from rfl]
  obtain ⟨hgg, _, _, hrg, _⟩ := hR
  obtain ⟨hBm, lp, lc, dp, dc, hMr, hk, hL, hD⟩ := hM
  have hne : gm ≠ g := hMr.ne hrg (by decide)
  generalize numRE 3 l = E at *
  generalize numRV 3 l = V at *
  go_enter Try.func28, Try.ntmps28
  go_wp2_with (go_at_call 45; (with_reducible refine Calls.mono (hx) ?_); rintro e w2 ⟨rfl, hF2, hR2⟩; have hM2 := hMr.fr hF2 (by simpa using hne); have hL2 := hL.fr1 hrg (by decide) hF2; have hD2 := hD.fr1 hrg (by decide) hF2; have hc2 : w2.cell? ⟨gm, 38, none⟩ = _ := hM2.cell.trans (mc38 hk); have hf2 := hM2.frozen (j := 38))
  go_ret
  refine ⟨rfl, (hF2.mono (by simp)).setCell (p := ⟨gm, 38, none⟩) (by simp) _, fun h0 => ⟨⟨hBm, lp, lc, dp, dc, ?_, hk, hL2.keep hM2 (by decide) 38, hD2.keep hM2 (by decide) 38⟩, (hR2 h0).setOther (a := ⟨gm, 38, none⟩) (Ne.symm hne) _⟩⟩
  have := hM2.set0 38 (.int .i64 V)
  rw [mset38 hk] at this
  exact this
end Go.Proofs.Ytcdmjjlbeifgjaa
