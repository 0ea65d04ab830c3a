/- WireKinds, some of its kinds: it returns true and turns no old memory. -/
import Derived.Test.YtcdmjjlbeifgjaaKindO
import Derived.Test.YtcdmjjlbeifgjaaArrEq
namespace Go.Proofs.Ytcdmjjlbeifgjaa
open Go.RowKit

set_option maxRecDepth 20000 in
set_option maxHeartbeats 8000000 in
theorem kind12 (m : M) (lp dp : Option Addr) (lc dc : Nat) (w : World) (hF : Fld w m lp lc dp dc) (h1 : m.list.length < 50) (h2 : m.data.length < 8000) (hbk : ∀ x ∈ m.key, 0 ≤ x ∧ x < 256) (hbd : ∀ x ∈ m.data, 0 ≤ x ∧ x < 256) (hkind : (goodM m).kind = 12) :
    Calls Try.prog 7 #[.agg (mc m lp lc dp dc)] w fun e w' => e = .returned (.bool true) ∧ Below w.heap.size w w' := by
  have hk := hF.key
  have hkg : (goodM m).key.length = 32 := hk
  have hR0 := Row.new w 28 (mc m lp lc dp dc)
  have hF0 := hF.below ((Below.refl _ _).alloc (Nat.le_refl _) (.cells (mc m lp lc dp dc) 28))
  have hB0 : Below w.heap.size w (w.alloc (.cells (mc m lp lc dp dc) 28)) := (Below.refl _ _).alloc (Nat.le_refl _) _
  have hfew := fun w1 h => few_any m lp dp lc dc w1 h (by omega) (by omega) true (by simp; omega)
  have hgood := fun w1 h => good_any m lp dp lc dc w1 h (by omega) (by omega)
  have hlg : (goodM m).list.length ≤ 10 := by show ((m.list.take 10).map _).length ≤ 10; simp; omega
  have hdg : (goodM m).data.length ≤ 6000 := by show (m.data.take 6000).length ≤ 6000; simp; omega
  have hfld := fun (w' : World) (lp' : Option Addr) (lc' B : Nat) h1 h2 => goodFld (w' := w') (lp' := lp') (lc' := lc') (B := B) hF h1 h2
  have hgE := good_encE m
  have hby := encB_by (goodM m) hbk (fun x hx => hbd x (List.mem_of_mem_take hx))
  have hback := par_back (goodM m) hkg hgE [6, 1, 7] (by rw [hkind]; rfl)
  have hlen := encB_len (goodM m) hkg
  have hnil : encB (goodM m) ≠ [] := by obtain ⟨r, _, _, hB, _⟩ := enc_row (goodM m) hgE; rw [hB]; simp
  have hpar : ∀ (w6 : World) (sp : Option Addr) (cap B : Nat), Own8 w6 B 5 (.slice sp (encB (goodM m)).length cap) (encB (goodM m)) → Calls Try.prog 15 #[.slice sp (encB (goodM m)).length cap] w6 fun e w' => ∃ lp7 lc7 dp7 dc7, e = .returned (.tuple #[.agg (mc (putR (goodM m) [6, 1, 7] (mK (goodM m).kind)) lp7 lc7 dp7 dc7), .int .i64 0]) ∧ (putR (goodM m) [6, 1, 7] (mK (goodM m).kind)).key.length = 32 ∧ Below w6.heap.size w6 w' := by
    intro w6 sp cap B ho
    refine (parse_any _ sp cap w6 ho.bytes (by omega) hby ho.nilcap ho.capped).mono ?_
    rintro e w' ⟨lp7, lc7, dp7, dc7, rfl, _, _, hk7, hb7⟩
    rw [hback.2] at hk7
    rw [hback.1, hback.2]
    exact ⟨lp7, lc7, dp7, dc7, rfl, hk7, hb7⟩
  have henc := fun w1 lp' lc' h => encode_any (goodM m) lp' dp lc' dc w1 h (by omega) (by omega)
  rw [hgE] at henc
  rw [hkind] at hpar
  clear hback hby hnil hgE
  generalize encB (goodM m) = xs at *
  generalize goodM m = gm at *
  have hpv : putR gm [6, 1, 7] (mK 12) = ({ mK 12 with data := gm.data, node := gm.node, lease := gm.lease } : M) := rfl
  rw [hpv] at hpar
  obtain ⟨pm, hpm⟩ : ∃ pm : M, pm = { mK 12 with data := gm.data, node := gm.node, lease := gm.lease } := ⟨_, rfl⟩
  rw [← hpm] at hpar
  have hpm' : Hid (pm = { mK 12 with data := gm.data, node := gm.node, lease := gm.lease }) := hpm
  clear hpv hpm
  go_enter Try.func7, Try.ntmps7
  go_upto_region 6 with (first | (go_at_call 9; (with_reducible refine Calls.mono (known_any _) ?_); rintro e w1 ⟨rfl, hb1⟩; have hR1 := hR0.below hb1 hR0.lt; have hF1 := hF0.below hb1) | (refine load_rowW ?hw 28 (.tmp 1) (by rfl) w.heap.size (by rfl) 28 (mc m lp lc dp dc) (0, 0) _ hR1 Try.underlying28 rfl ?hi ?_; (case hw => rfl); (case hi => rw [mc_size hk]; exact info28)) | (go_at_call 10; (with_reducible refine Calls.mono (hfew _ hF1) ?_); rintro e w2 ⟨rfl, hb2⟩; replace hR1 := hR1.below hb2 hR1.lt; have hF2 := hF1.below hb2; have hb02 := hB0.trans ((hb1.mono hB0.size).trans (hb2.mono (Nat.le_trans hB0.size hb1.size)))) | (go_at_call 16; (with_reducible refine Calls.mono (hgood _ hF2) ?_); rintro e w3 ⟨lp3, lc3, rfl, ho3, hb3⟩; replace hR1 := hR1.below hb3 hR1.lt; have hb03 := hb02.trans (hb3.mono hb02.size)) | (refine store_row0 28 (.tmp 1) (.tmp 18) (by rfl) (by rfl) (by rfl) w.heap.size (mc gm lp3 lc3 dp dc) (by rfl) (by rfl) 28 (mc m lp lc dp dc) hR1 ?hi ?hold mc_one ?_; (case hi => rw [mc_size hkg]; exact info28); (case hold => rw [mc_size hkg, mc_size hk])))
  have hR := hR1.setRow (mc gm lp3 lc3 dp dc)
  have hb4 : Below w.heap.size w (w3.setRow w.heap.size (mc gm lp3 lc3 dp dc)) := below_setRow hb03 (Nat.le_refl _) _
  have ho4 := ho3.keepRow hR1 (by decide) (mc gm lp3 lc3 dp dc)
  have hF4 := hfld _ _ _ _ hb4 ho4
  generalize w3.setRow w.heap.size (mc gm lp3 lc3 dp dc) = W4 at *
  have hsz4 := hR.lt
  clear hR1 hR0 hF0 hB0 hgood hfew ho3 hb3 hb1 hb2 hF1 hF2
  have hc0 : W4.cell? ⟨w.heap.size, 0, none⟩ = some (.int .i64 12) := hR.cell.trans (by rw [mc0, hkind])
  go_upto_region 8 with (first | (refine load_rowW ?hw 28 (.tmp 1) (by rfl) w.heap.size (by rfl) 28 (mc gm lp3 lc3 dp dc) (0, 0) _ hR Try.underlying28 rfl ?hi ?_; (case hw => rfl); (case hi => rw [mc_size hkg]; exact info28)) | (go_at_call 11; (with_reducible refine Calls.mono (henc _ _ _ hF4) ?_); rintro e w5 ⟨sp, cap, rfl, ho5, hb5⟩; have hR5 := hR.below hb5 hsz4; have hb05 := hb4.trans (hb5.mono hb4.size)) | (go_at_call 15; (with_reducible refine Calls.mono (hpar _ _ _ _ ho5) ?_); rintro e w7 ⟨lp7, lc7, dp7, dc7, rfl, hkp, hb7⟩; have hR7 := hR5.below hb7 hR5.lt; have hb07 := hb05.trans (hb7.mono hb05.size)) | (refine store_row0 28 (.tmp 5) (.tmp 27) (by rfl) (by rfl) (by rfl) w7.heap.size (mc pm lp7 lc7 dp7 dc7) (by rfl) (by rfl) 28 (mc (mK 0) none 0 none 0) ?hrow ?hi ?hold mc_one ?_; (case hrow => exact Row.new w7 28 _); (case hi => rw [mc_size hkp]; exact info28); (case hold => rw [mc_size hkp, mc_size rfl])))
  have hX := (Row.new w7 28 (mc (mK 0) none 0 none 0)).setRow (mc pm lp7 lc7 dp7 dc7)
  have hne : w.heap.size ≠ w7.heap.size := by have := hR7.lt; omega
  have hG := (hR7.alloc (.cells (mc (mK 0) none 0 none 0) 28)).setRowOther hne (mc pm lp7 lc7 dp7 dc7)
  have hb8 : Below w.heap.size w ((w7.alloc (.cells (mc (mK 0) none 0 none 0) 28)).setRow w7.heap.size (mc pm lp7 lc7 dp7 dc7)) := below_setRow (hb07.alloc hb07.size _) hb07.size _
  rw [litK]
  generalize (w7.alloc (.cells (mc (mK 0) none 0 none 0) 28)).setRow w7.heap.size (mc pm lp7 lc7 dp7 dc7) = W8 at *
  have g0 : W8.cell? ⟨w.heap.size, 0, none⟩ = some (.int .i64 12) := hG.cell.trans (by rw [mc0, hkind])
  obtain rfl := hpm'.out
  have x0 : W8.cell? ⟨w7.heap.size, 0, none⟩ = some (.int .i64 12) := hX.cell.trans mc0
  have x1 := (hX.cell (j := 1)).trans mc1
  have x2 := (hX.cell (j := 2)).trans mc2
  have x3 := (hX.cell (j := 3)).trans mc3
  have x4 := (hX.cell (j := 4)).trans mc4
  have x37 := (hX.cell (j := 37)).trans (mc37 hkp)
  have x38 := (hX.cell (j := 38)).trans (mc38 hkp)
  have x39 := (hX.cell (j := 39)).trans (mc39 hkp)
  have rng : W8.rangeAt w7.heap.size 5 (z32.map (Value.int .u8)) := rangeK hX rfl
  simp only [mK, List.length_nil] at x1 x2 x3 x4 x37 x38 x39
  clear hc0 hR hF4 ho4 hR5 hR7 hb7 hb5 henc hpar hX hG
  have hrange : W8.rangeAt w7.heap.size 5 (z32.map (Value.int .u8)) := rng
  clear rng
  have heq : ∀ W, (binOp .eql 24 (.agg (z32.map (Value.int .u8)).toArray) (.agg #[.int .u8 0, .int .u8 0, .int .u8 0, .int .u8 0, .int .u8 0, .int .u8 0, .int .u8 0, .int .u8 0, .int .u8 0, .int .u8 0, .int .u8 0, .int .u8 0, .int .u8 0, .int .u8 0, .int .u8 0, .int .u8 0, .int .u8 0, .int .u8 0, .int .u8 0, .int .u8 0, .int .u8 0, .int .u8 0, .int .u8 0, .int .u8 0, .int .u8 0, .int .u8 0, .int .u8 0, .int .u8 0, .int .u8 0, .int .u8 0, .int .u8 0, .int .u8 0])).run Try.prog W = .ok (.bool true) W := fun W => by
    have := run_eql_bytes (P := Try.prog) W 24 5 32 z32 z32 Try.underlying24 Try.underlying5 (by kernel_rfl) rfl rfl
    rw [decide_eq_true rfl] at this
    exact this
  go_upto_region 15 with (fail)
  refine wp_region_lit ?_
  repeat (first | (refine load_midW ?hw 24 (.tmp 102) ?hz1 w7.heap.size 5 ?hz2 (z32.map (Value.int .u8)) _ hrange Try.underlying24 rfl ?hi ?_; (case hz1 => with_reducible rfl); (case hz2 => rfl); (case hw => rfl); (case hi => kernel_rfl)) | go_step | go_guarded)
  go_ret
  exact ⟨rfl, hb8⟩
end Go.Proofs.Ytcdmjjlbeifgjaa
