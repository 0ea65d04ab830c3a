/- wire's (*writer).part: what it answers, and what is written, for each part of a message. -/
import Derived.Test.YtcdmjjlbeifgjaaList
namespace Go.Proofs.Ytcdmjjlbeifgjaa
open Go.RowKit

set_option maxRecDepth 20000 in
set_option maxHeartbeats 1000000 in
theorem part0 (m : M) (lp dp : Option Addr) (lc dc : Nat) (w0 w : World) (g gm : Nat) (bs : List Int)
    (hb : Below w0.heap.size w0 w) (hW : Wr w w0.heap.size g bs) (hl : bs.length ≤ 274877906944) (hR : Row w0 gm 28 (mc m lp lc dp dc)) (hF : Fld w0 m lp lc dp dc) (_hll : m.list.length ≤ 274877906944) (_hdl : m.data.length ≤ 274877906944) :
    Calls Try.prog 20 #[.pointer (some ⟨g, 0, none⟩), .int .i64 0, .pointer (some ⟨gm, 0, none⟩)] w fun e w' => e = .returned (.int .i64 (partE 0 m)) ∧ Below w0.heap.size w0 w' ∧ (partE 0 m = 0 → Wr w' w0.heap.size g (bs ++ partB 0 m)) := by
  have hk := hF.key
  have hc : w.cell? ⟨gm, 2, none⟩ = _ := ((hR.below hb hR.lt).cell).trans mc2
  have hx := pred_any m.pred w w0.heap.size g bs hW (by omega) hb.size _ _ rfl rfl
  rw [show partE 0 m = (if m.pred = -1 then 0 else numE 0 m.pred 1) from rfl, show partB 0 m = (if m.pred = -1 then [255] else nb 1 m.pred) from rfl]
  clear hR hF hW
  generalize (if m.pred = -1 then 0 else numE 0 m.pred 1) = E at *
  generalize (if m.pred = -1 then [255] else nb 1 m.pred) = zs at *
  go_enter Try.func20, Try.ntmps20
  go_wp2_with (go_at_call 36; (with_reducible refine Calls.mono (hx) ?_); rintro e w2 ⟨rfl, hb2, hw2⟩)
  go_ret
  exact ⟨rfl, hb.trans hb2, hw2⟩

set_option maxRecDepth 20000 in
set_option maxHeartbeats 1000000 in
theorem part1 (m : M) (lp dp : Option Addr) (lc dc : Nat) (w0 w : World) (g gm : Nat) (bs : List Int)
    (hb : Below w0.heap.size w0 w) (hW : Wr w w0.heap.size g bs) (hl : bs.length ≤ 274877906944) (hR : Row w0 gm 28 (mc m lp lc dp dc)) (hF : Fld w0 m lp lc dp dc) (_hll : m.list.length ≤ 274877906944) (_hdl : m.data.length ≤ 274877906944) :
    Calls Try.prog 20 #[.pointer (some ⟨g, 0, none⟩), .int .i64 1, .pointer (some ⟨gm, 0, none⟩)] w fun e w' => e = .returned (.int .i64 (partE 1 m)) ∧ Below w0.heap.size w0 w' ∧ (partE 1 m = 0 → Wr w' w0.heap.size g (bs ++ partB 1 m)) := by
  have hk := hF.key
  have hc : w.cell? ⟨gm, 1, none⟩ = _ := ((hR.below hb hR.lt).cell).trans mc1
  have hx := number_any 0 m.node 1 w w0.heap.size g bs hW (by omega) hb.size (by decide)
  rw [show partE 1 m = numE 0 m.node 1 from rfl, show partB 1 m = nb (bsz 0) m.node from rfl]
  clear hR hF hW
  generalize numE 0 m.node 1 = E at *
  generalize nb (bsz 0) m.node = zs at *
  go_enter Try.func20, Try.ntmps20
  go_wp2_with (go_at_call 37; (with_reducible refine Calls.mono (hx) ?_); rintro e w2 ⟨rfl, hb2, hw2⟩)
  go_ret
  exact ⟨rfl, hb.trans hb2, hw2⟩

set_option maxRecDepth 20000 in
set_option maxHeartbeats 1000000 in
theorem part2 (m : M) (lp dp : Option Addr) (lc dc : Nat) (w0 w : World) (g gm : Nat) (bs : List Int)
    (hb : Below w0.heap.size w0 w) (hW : Wr w w0.heap.size g bs) (hl : bs.length ≤ 274877906944) (hR : Row w0 gm 28 (mc m lp lc dp dc)) (hF : Fld w0 m lp lc dp dc) (hll : m.list.length ≤ 274877906944) (_hdl : m.data.length ≤ 274877906944) :
    Calls Try.prog 20 #[.pointer (some ⟨g, 0, none⟩), .int .i64 2, .pointer (some ⟨gm, 0, none⟩)] w fun e w' => e = .returned (.int .i64 (partE 2 m)) ∧ Below w0.heap.size w0 w' ∧ (partE 2 m = 0 → Wr w' w0.heap.size g (bs ++ partB 2 m)) := by
  have hk := hF.key
  have hc : w.cell? ⟨gm, 3, none⟩ = _ := ((hR.below hb hR.lt).cell).trans mc3
  have hx := list_any m.list lp lc w0 w g bs hb hW (by omega) (by omega) hF.ints
  rw [show partE 2 m = listE m.list from rfl, show partB 2 m = nb 1 m.list.length ++ m.list.flatMap (nb 1) from rfl]
  clear hR hF hW
  generalize listE m.list = E at *
  generalize nb 1 m.list.length ++ m.list.flatMap (nb 1) = zs at *
  go_enter Try.func20, Try.ntmps20
  go_wp2_with (go_at_call 38; (with_reducible refine Calls.mono (hx) ?_); rintro e w2 ⟨rfl, hb2, hw2⟩)
  go_ret
  exact ⟨rfl, hb2, hw2⟩

set_option maxRecDepth 20000 in
set_option maxHeartbeats 1000000 in
theorem part4 (m : M) (lp dp : Option Addr) (lc dc : Nat) (w0 w : World) (g gm : Nat) (bs : List Int)
    (hb : Below w0.heap.size w0 w) (hW : Wr w w0.heap.size g bs) (hl : bs.length ≤ 274877906944) (hR : Row w0 gm 28 (mc m lp lc dp dc)) (hF : Fld w0 m lp lc dp dc) (_hll : m.list.length ≤ 274877906944) (_hdl : m.data.length ≤ 274877906944) :
    Calls Try.prog 20 #[.pointer (some ⟨g, 0, none⟩), .int .i64 4, .pointer (some ⟨gm, 0, none⟩)] w fun e w' => e = .returned (.int .i64 (partE 4 m)) ∧ Below w0.heap.size w0 w' ∧ (partE 4 m = 0 → Wr w' w0.heap.size g (bs ++ partB 4 m)) := by
  have hk := hF.key
  have hc : w.cell? ⟨gm, 39, none⟩ = _ := ((hR.below hb hR.lt).cell).trans (mc39 hk)
  have hx := number_any 4 m.err 1 w w0.heap.size g bs hW (by omega) hb.size (by decide)
  rw [show partE 4 m = numE 4 m.err 1 from rfl, show partB 4 m = nb (bsz 4) m.err from rfl]
  clear hR hF hW
  generalize numE 4 m.err 1 = E at *
  generalize nb (bsz 4) m.err = zs at *
  go_enter Try.func20, Try.ntmps20
  go_wp2_with (go_at_call 37; (with_reducible refine Calls.mono (hx) ?_); rintro e w2 ⟨rfl, hb2, hw2⟩)
  go_ret
  exact ⟨rfl, hb.trans hb2, hw2⟩

set_option maxRecDepth 20000 in
set_option maxHeartbeats 1000000 in
theorem part6 (m : M) (lp dp : Option Addr) (lc dc : Nat) (w0 w : World) (g gm : Nat) (bs : List Int)
    (hb : Below w0.heap.size w0 w) (hW : Wr w w0.heap.size g bs) (hl : bs.length ≤ 274877906944) (hR : Row w0 gm 28 (mc m lp lc dp dc)) (hF : Fld w0 m lp lc dp dc) (_hll : m.list.length ≤ 274877906944) (hdl : m.data.length ≤ 274877906944) :
    Calls Try.prog 20 #[.pointer (some ⟨g, 0, none⟩), .int .i64 6, .pointer (some ⟨gm, 0, none⟩)] w fun e w' => e = .returned (.int .i64 (partE 6 m)) ∧ Below w0.heap.size w0 w' ∧ (partE 6 m = 0 → Wr w' w0.heap.size g (bs ++ partB 6 m)) := by
  have hk := hF.key
  have hc : w.cell? ⟨gm, 37, none⟩ = _ := ((hR.below hb hR.lt).cell).trans (mc37 hk)
  have hx := bytes_any m.data dp dc w0 w g bs hb hW (by omega) (by omega) hF.bytes hF.dnil
  rw [show partE 6 m = dataE m.data from rfl, show partB 6 m = nb 2 m.data.length ++ m.data from rfl]
  clear hR hF hW
  generalize dataE m.data = E at *
  generalize nb 2 m.data.length ++ m.data = zs at *
  go_enter Try.func20, Try.ntmps20
  go_wp2_with (go_at_call 40; (with_reducible refine Calls.mono (hx) ?_); rintro e w2 ⟨rfl, hb2, hw2⟩)
  go_ret
  exact ⟨rfl, hb2, hw2⟩

set_option maxRecDepth 20000 in
set_option maxHeartbeats 1000000 in
theorem part7 (m : M) (lp dp : Option Addr) (lc dc : Nat) (w0 w : World) (g gm : Nat) (bs : List Int)
    (hb : Below w0.heap.size w0 w) (hW : Wr w w0.heap.size g bs) (hl : bs.length ≤ 274877906944) (hR : Row w0 gm 28 (mc m lp lc dp dc)) (hF : Fld w0 m lp lc dp dc) (_hll : m.list.length ≤ 274877906944) (_hdl : m.data.length ≤ 274877906944) :
    Calls Try.prog 20 #[.pointer (some ⟨g, 0, none⟩), .int .i64 7, .pointer (some ⟨gm, 0, none⟩)] w fun e w' => e = .returned (.int .i64 (partE 7 m)) ∧ Below w0.heap.size w0 w' ∧ (partE 7 m = 0 → Wr w' w0.heap.size g (bs ++ partB 7 m)) := by
  have hk := hF.key
  have hc : w.cell? ⟨gm, 38, none⟩ = _ := ((hR.below hb hR.lt).cell).trans (mc38 hk)
  have hx := number_any 3 m.lease 1 w w0.heap.size g bs hW (by omega) hb.size (by decide)
  rw [show partE 7 m = numE 3 m.lease 1 from rfl, show partB 7 m = nb (bsz 3) m.lease from rfl]
  clear hR hF hW
  generalize numE 3 m.lease 1 = E at *
  generalize nb (bsz 3) m.lease = zs at *
  go_enter Try.func20, Try.ntmps20
  go_wp2_with (go_at_call 37; (with_reducible refine Calls.mono (hx) ?_); rintro e w2 ⟨rfl, hb2, hw2⟩)
  go_ret
  exact ⟨rfl, hb.trans hb2, hw2⟩

set_option maxRecDepth 20000 in
set_option maxHeartbeats 1000000 in
theorem part3 (m : M) (lp dp : Option Addr) (lc dc : Nat) (w0 w : World) (g gm : Nat) (bs : List Int)
    (hb : Below w0.heap.size w0 w) (hW : Wr w w0.heap.size g bs) (hl : bs.length ≤ 274877906944) (hR : Row w0 gm 28 (mc m lp lc dp dc)) (_hF : Fld w0 m lp lc dp dc) (_hll : m.list.length ≤ 274877906944) (_hdl : m.data.length ≤ 274877906944) :
    Calls Try.prog 20 #[.pointer (some ⟨g, 0, none⟩), .int .i64 3, .pointer (some ⟨gm, 0, none⟩)] w fun e w' => e = .returned (.int .i64 (partE 3 m)) ∧ Below w0.heap.size w0 w' ∧ (partE 3 m = 0 → Wr w' w0.heap.size g (bs ++ partB 3 m)) := by
  have hc : w.cell? ⟨gm, 4, none⟩ = _ := ((hR.below hb hR.lt).cell).trans mc4
  have hx := done_any m.done w w0.heap.size g bs hW (by omega) hb.size
  rw [show partE 3 m = 0 from rfl, show partB 3 m = [if m.done then 1 else 0] from rfl]
  clear hR hW
  generalize ([if m.done then 1 else 0] : List Int) = zs at *
  go_enter Try.func20, Try.ntmps20
  go_wp2_with (go_at_call 39; (with_reducible refine Calls.mono (hx) ?_); rintro e w2 ⟨rfl, hb2, hw2⟩)
  go_ret
  exact ⟨rfl, hb.trans hb2, by simpa using hw2⟩

set_option maxRecDepth 20000 in
set_option maxHeartbeats 1000000 in
theorem part5 (m : M) (lp dp : Option Addr) (lc dc : Nat) (w0 w : World) (g gm : Nat) (bs : List Int)
    (hb : Below w0.heap.size w0 w) (hW : Wr w w0.heap.size g bs) (hl : bs.length ≤ 274877906944) (hR : Row w0 gm 28 (mc m lp lc dp dc)) (hF : Fld w0 m lp lc dp dc) (_hll : m.list.length ≤ 274877906944) (_hdl : m.data.length ≤ 274877906944) :
    Calls Try.prog 20 #[.pointer (some ⟨g, 0, none⟩), .int .i64 5, .pointer (some ⟨gm, 0, none⟩)] w fun e w' => e = .returned (.int .i64 (partE 5 m)) ∧ Below w0.heap.size w0 w' ∧ (partE 5 m = 0 → Wr w' w0.heap.size g (bs ++ partB 5 m)) := by
  have hk := hF.key
  rw [show partE 5 m = 0 from rfl, show partB 5 m = m.key from rfl]
  have hR1 := hR.below hb hR.lt
  have hby := key_bytes hR1 hk
  obtain ⟨hBg, sp, cap, hr, ho⟩ := hW
  have hc0 : w.cell? ⟨g, 0, none⟩ = some (.slice sp bs.length cap) := hr.cell
  clear hR hF
  go_enter Try.func20, Try.ntmps20
  go_wp2
  go_region_law (refine step8 (.tmp 54) (.tmp 58) 25 5 ?h1 ?h2 w0.heap.size Try.underlying25 info5 (.slice sp bs.length cap) bs ?h3 ?ho (some ⟨gm, 5, none⟩) 32 32 m.key ?h4 ?h5 ?h6 ?hby ?hlen ?hB ?_; (case h1 => rfl); (case h2 => rfl); (case h3 => rfl); (case h4 => rfl); (case h5 => exact hk); (case h6 => exact (fun h => by cases h)); (case hby => exact hby); (case ho => exact ho); (case hlen => omega); (case hB => exact hb.size); simp only [List.length_append, hk]; intro sp5 cap5 w5 o5 b5 k5; have hr5 := k5 _ _ _ (by decide) (hr.drewN 1); have hc5 : w5.cell? ⟨g, 0, none⟩ = some (.slice sp bs.length cap) := hr5.cell; have hf5 := hr5.frozen (j := 0))
  go_wp2
  go_ret
  exact ⟨rfl, (hb.trans (((Below.refl _ _).drew).trans b5)).setCell hBg _, fun _ => Wr.stored hBg hr5 (by simp [hk]) o5⟩

theorem part_any (p : Int) (hp : 0 ≤ p ∧ p ≤ 7) (m : M) (lp dp : Option Addr) (lc dc : Nat) (w0 w : World) (g gm : Nat) (bs : List Int)
    (hb : Below w0.heap.size w0 w) (hW : Wr w w0.heap.size g bs) (hl : bs.length ≤ 274877906944) (hR : Row w0 gm 28 (mc m lp lc dp dc)) (hF : Fld w0 m lp lc dp dc) (hll : m.list.length ≤ 274877906944) (hdl : m.data.length ≤ 274877906944) :
    Calls Try.prog 20 #[.pointer (some ⟨g, 0, none⟩), .int .i64 p, .pointer (some ⟨gm, 0, none⟩)] w fun e w' => e = .returned (.int .i64 (partE p m)) ∧ Below w0.heap.size w0 w' ∧ (partE p m = 0 → Wr w' w0.heap.size g (bs ++ partB p m)) := by
  rcases (by omega : p = 0 ∨ p = 1 ∨ p = 2 ∨ p = 3 ∨ p = 4 ∨ p = 5 ∨ p = 6 ∨ p = 7) with rfl | rfl | rfl | rfl | rfl | rfl | rfl | rfl
  · exact part0 m lp dp lc dc w0 w g gm bs hb hW hl hR hF hll hdl
  · exact part1 m lp dp lc dc w0 w g gm bs hb hW hl hR hF hll hdl
  · exact part2 m lp dp lc dc w0 w g gm bs hb hW hl hR hF hll hdl
  · exact part3 m lp dp lc dc w0 w g gm bs hb hW hl hR hF hll hdl
  · exact part4 m lp dp lc dc w0 w g gm bs hb hW hl hR hF hll hdl
  · exact part5 m lp dp lc dc w0 w g gm bs hb hW hl hR hF hll hdl
  · exact part6 m lp dp lc dc w0 w g gm bs hb hW hl hR hF hll hdl
  · exact part7 m lp dp lc dc w0 w g gm bs hb hW hl hR hF hll hdl

end Go.Proofs.Ytcdmjjlbeifgjaa
