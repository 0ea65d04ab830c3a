/- WireLengths, some of its kinds: it returns true and turns no old memory. -/
import Derived.Test.YtcdmjjlbeifgjaaEarly
import Derived.Deep.DeepCutAuto
namespace Go.Proofs.Ytcdmjjlbeifgjaa
open Go.RowKit

set_option maxRecDepth 20000 in
set_option maxHeartbeats 1000000 in
theorem len1 (m : M) (lp dp : Option Addr) (lc dc : Nat) (w : World) (hF : Fld w m lp lc dp dc) (h1 : m.list.length < 50) (h2 : m.data.length < 8000) (hkind : (goodM m).kind = 1) :
    Calls Try.prog 8 #[.agg (mc m lp lc dp dc)] w fun e w' => e = .returned (.bool true) ∧ Below w.heap.size w w' := by
  have hk := hF.key
  have hkg : (goodM m).key.length = 32 := hk
  have hR0 := Row.new w 28 (mc m lp lc dp dc)
  have hF0 := hF.below ((Below.refl _ _).alloc (Nat.le_refl _) (.cells (mc m lp lc dp dc) 28))
  have hB0 : Below w.heap.size w (w.alloc (.cells (mc m lp lc dp dc) 28)) := (Below.refl _ _).alloc (Nat.le_refl _) _
  have hfew := fun w1 h => few_any m lp dp lc dc w1 h (by omega) (by omega) true (by simp; omega)
  have hgood := fun w1 h => good_any m lp dp lc dc w1 h (by omega) (by omega)
  have hlg : (goodM m).list.length ≤ 10 := by show ((m.list.take 10).map _).length ≤ 10; simp; omega
  have hdg : (goodM m).data.length ≤ 6000 := by show (m.data.take 6000).length ≤ 6000; simp; omega
  have henc := fun w1 lp' lc' h => encode_any (goodM m) lp' dp lc' dc w1 h (by omega) (by omega)
  rw [good_encE m] at henc
  obtain ⟨xs, hxs, hxl⟩ := good_len m hk
  rw [hxs] at henc
  rw [hkind] at hxl henc
  have hlen : Hid ((((1 : Int) :: xs).length : Int) = 1) := by show _ = _; rw [List.length_cons, hxl]; simp [restL]; try omega
  have hfld := fun (w' : World) (lp' : Option Addr) (lc' B : Nat) h1 h2 => goodFld (w' := w') (lp' := lp') (lc' := lc') (B := B) hF h1 h2
  clear hxl hxs
  generalize goodM m = gm at *
  go_enter Try.func8, Try.ntmps8
  go_upto_region 6 with (first | (go_at_call 9; (with_reducible refine Calls.mono (known_any _) ?_); rintro e w1 ⟨rfl, hb1⟩; have hR1 := hR0.below hb1 hR0.lt; have hF1 := hF0.below hb1) | (refine load_rowW ?hw 28 (.tmp 1) (by rfl) w.heap.size (by rfl) 28 (mc m lp lc dp dc) (0, 0) _ hR1 Try.underlying28 rfl ?hi ?_; (case hw => rfl); (case hi => rw [mc_size hk]; exact info28)) | (go_at_call 10; (with_reducible refine Calls.mono (hfew _ hF1) ?_); rintro e w2 ⟨rfl, hb2⟩; replace hR1 := hR1.below hb2 hR1.lt; have hF2 := hF1.below hb2; have hb02 := hB0.trans ((hb1.mono hB0.size).trans (hb2.mono (Nat.le_trans hB0.size hb1.size)))) | (go_at_call 16; (with_reducible refine Calls.mono (hgood _ hF2) ?_); rintro e w3 ⟨lp3, lc3, rfl, ho3, hb3⟩; replace hR1 := hR1.below hb3 hR1.lt; have hb03 := hb02.trans (hb3.mono hb02.size)) | (refine store_row0 28 (.tmp 1) (.tmp 12) (by rfl) (by rfl) (by rfl) w.heap.size (mc gm lp3 lc3 dp dc) (by rfl) (by rfl) 28 (mc m lp lc dp dc) hR1 ?hi ?hold mc_one ?_; (case hi => rw [mc_size hkg]; exact info28); (case hold => rw [mc_size hkg, mc_size hk])))
  have hR := hR1.setRow (mc gm lp3 lc3 dp dc)
  have hb4 : Below w.heap.size w (w3.setRow w.heap.size (mc gm lp3 lc3 dp dc)) := below_setRow hb03 (Nat.le_refl _) _
  have ho4 := ho3.keepRow hR1 (by decide) (mc gm lp3 lc3 dp dc)
  have hF4 := hfld _ _ _ _ hb4 ho4
  generalize w3.setRow w.heap.size (mc gm lp3 lc3 dp dc) = W4 at *
  have hsz4 := hR.lt
  clear hR1 hR0 hF0 hB0 hgood hfew ho3 hb3 hb1 hb2 hF1 hF2
  go_upto_region 27 with (first | (refine load_rowW ?hw 28 (.tmp 1) (by rfl) w.heap.size (by rfl) 28 (mc gm lp3 lc3 dp dc) (0, 0) _ hR Try.underlying28 rfl ?hi ?_; (case hw => rfl); (case hi => rw [mc_size hkg]; exact info28)) | (go_at_call 11; (with_reducible refine Calls.mono (henc _ _ _ hF4) ?_); rintro e w5 ⟨sp, cap, rfl, ho5, hb5⟩; have hR5 := hR.below hb5 hsz4; have hc0 : w5.cell? ⟨w.heap.size, 0, none⟩ = some (.int .i64 1) := hR5.cell.trans (by rw [mc0, hkind]); have hc3 : w5.cell? ⟨w.heap.size, 3, none⟩ = some (.slice lp3 gm.list.length lc3) := hR5.cell.trans mc3; have hc37 : w5.cell? ⟨w.heap.size, 37, none⟩ = some (.slice dp gm.data.length dc) := hR5.cell.trans (mc37 hkg)))
  obtain ⟨b, o, rfl, hcb⟩ := ho5.bytes (by simp)
  have k0 : w5.cell? ⟨b, o, none⟩ = some (.int .u8 1) := by
    have := hcb 0 (by simp)
    simpa [gi] using this
  have hq : ((xs.length : Int) + 1 == 1) = true := by
    have := hlen.out
    simp only [List.length_cons] at this
    simp only [beq_iff_eq]
    omega
  have hq2 : (((xs.length + 1 : Nat) : Int) == 1) = true := by simpa using hq
  clear hlen hcb
  go_quiet (fail)
  go_wp2
  go_ret
  exact ⟨rfl, below_drewN (hb4.trans (hb5.mono hb4.size)) _⟩
set_option maxRecDepth 20000 in
set_option maxHeartbeats 1000000 in
theorem len2 (m : M) (lp dp : Option Addr) (lc dc : Nat) (w : World) (hF : Fld w m lp lc dp dc) (h1 : m.list.length < 50) (h2 : m.data.length < 8000) (hkind : (goodM m).kind = 2) :
    Calls Try.prog 8 #[.agg (mc m lp lc dp dc)] w fun e w' => e = .returned (.bool true) ∧ Below w.heap.size w w' := by
  have hk := hF.key
  have hkg : (goodM m).key.length = 32 := hk
  have hR0 := Row.new w 28 (mc m lp lc dp dc)
  have hF0 := hF.below ((Below.refl _ _).alloc (Nat.le_refl _) (.cells (mc m lp lc dp dc) 28))
  have hB0 : Below w.heap.size w (w.alloc (.cells (mc m lp lc dp dc) 28)) := (Below.refl _ _).alloc (Nat.le_refl _) _
  have hfew := fun w1 h => few_any m lp dp lc dc w1 h (by omega) (by omega) true (by simp; omega)
  have hgood := fun w1 h => good_any m lp dp lc dc w1 h (by omega) (by omega)
  have hlg : (goodM m).list.length ≤ 10 := by show ((m.list.take 10).map _).length ≤ 10; simp; omega
  have hdg : (goodM m).data.length ≤ 6000 := by show (m.data.take 6000).length ≤ 6000; simp; omega
  have henc := fun w1 lp' lc' h => encode_any (goodM m) lp' dp lc' dc w1 h (by omega) (by omega)
  rw [good_encE m] at henc
  obtain ⟨xs, hxs, hxl⟩ := good_len m hk
  rw [hxs] at henc
  rw [hkind] at hxl henc
  have hlen : Hid ((((2 : Int) :: xs).length : Int) = 3 + ((goodM m).list.length : Int)) := by show _ = _; rw [List.length_cons, hxl]; simp [restL]; try omega
  have hfld := fun (w' : World) (lp' : Option Addr) (lc' B : Nat) h1 h2 => goodFld (w' := w') (lp' := lp') (lc' := lc') (B := B) hF h1 h2
  clear hxl hxs
  generalize goodM m = gm at *
  go_enter Try.func8, Try.ntmps8
  go_upto_region 6 with (first | (go_at_call 9; (with_reducible refine Calls.mono (known_any _) ?_); rintro e w1 ⟨rfl, hb1⟩; have hR1 := hR0.below hb1 hR0.lt; have hF1 := hF0.below hb1) | (refine load_rowW ?hw 28 (.tmp 1) (by rfl) w.heap.size (by rfl) 28 (mc m lp lc dp dc) (0, 0) _ hR1 Try.underlying28 rfl ?hi ?_; (case hw => rfl); (case hi => rw [mc_size hk]; exact info28)) | (go_at_call 10; (with_reducible refine Calls.mono (hfew _ hF1) ?_); rintro e w2 ⟨rfl, hb2⟩; replace hR1 := hR1.below hb2 hR1.lt; have hF2 := hF1.below hb2; have hb02 := hB0.trans ((hb1.mono hB0.size).trans (hb2.mono (Nat.le_trans hB0.size hb1.size)))) | (go_at_call 16; (with_reducible refine Calls.mono (hgood _ hF2) ?_); rintro e w3 ⟨lp3, lc3, rfl, ho3, hb3⟩; replace hR1 := hR1.below hb3 hR1.lt; have hb03 := hb02.trans (hb3.mono hb02.size)) | (refine store_row0 28 (.tmp 1) (.tmp 12) (by rfl) (by rfl) (by rfl) w.heap.size (mc gm lp3 lc3 dp dc) (by rfl) (by rfl) 28 (mc m lp lc dp dc) hR1 ?hi ?hold mc_one ?_; (case hi => rw [mc_size hkg]; exact info28); (case hold => rw [mc_size hkg, mc_size hk])))
  have hR := hR1.setRow (mc gm lp3 lc3 dp dc)
  have hb4 : Below w.heap.size w (w3.setRow w.heap.size (mc gm lp3 lc3 dp dc)) := below_setRow hb03 (Nat.le_refl _) _
  have ho4 := ho3.keepRow hR1 (by decide) (mc gm lp3 lc3 dp dc)
  have hF4 := hfld _ _ _ _ hb4 ho4
  generalize w3.setRow w.heap.size (mc gm lp3 lc3 dp dc) = W4 at *
  have hsz4 := hR.lt
  clear hR1 hR0 hF0 hB0 hgood hfew ho3 hb3 hb1 hb2 hF1 hF2
  go_upto_region 27 with (first | (refine load_rowW ?hw 28 (.tmp 1) (by rfl) w.heap.size (by rfl) 28 (mc gm lp3 lc3 dp dc) (0, 0) _ hR Try.underlying28 rfl ?hi ?_; (case hw => rfl); (case hi => rw [mc_size hkg]; exact info28)) | (go_at_call 11; (with_reducible refine Calls.mono (henc _ _ _ hF4) ?_); rintro e w5 ⟨sp, cap, rfl, ho5, hb5⟩; have hR5 := hR.below hb5 hsz4; have hc0 : w5.cell? ⟨w.heap.size, 0, none⟩ = some (.int .i64 2) := hR5.cell.trans (by rw [mc0, hkind]); have hc3 : w5.cell? ⟨w.heap.size, 3, none⟩ = some (.slice lp3 gm.list.length lc3) := hR5.cell.trans mc3; have hc37 : w5.cell? ⟨w.heap.size, 37, none⟩ = some (.slice dp gm.data.length dc) := hR5.cell.trans (mc37 hkg)))
  obtain ⟨b, o, rfl, hcb⟩ := ho5.bytes (by simp)
  have k0 : w5.cell? ⟨b, o, none⟩ = some (.int .u8 2) := by
    have := hcb 0 (by simp)
    simpa [gi] using this
  have hq : ((xs.length : Int) + 1 == 3 + (gm.list.length : Int)) = true := by
    have := hlen.out
    simp only [List.length_cons] at this
    simp only [beq_iff_eq]
    omega
  have hq2 : (((xs.length + 1 : Nat) : Int) == 3 + (gm.list.length : Int)) = true := by simpa using hq
  clear hlen hcb
  go_quiet (fail)
  go_wp2
  go_ret
  exact ⟨rfl, below_drewN (hb4.trans (hb5.mono hb4.size)) _⟩
set_option maxRecDepth 20000 in
set_option maxHeartbeats 1000000 in
theorem len3 (m : M) (lp dp : Option Addr) (lc dc : Nat) (w : World) (hF : Fld w m lp lc dp dc) (h1 : m.list.length < 50) (h2 : m.data.length < 8000) (hkind : (goodM m).kind = 3) :
    Calls Try.prog 8 #[.agg (mc m lp lc dp dc)] w fun e w' => e = .returned (.bool true) ∧ Below w.heap.size w w' := by
  have hk := hF.key
  have hkg : (goodM m).key.length = 32 := hk
  have hR0 := Row.new w 28 (mc m lp lc dp dc)
  have hF0 := hF.below ((Below.refl _ _).alloc (Nat.le_refl _) (.cells (mc m lp lc dp dc) 28))
  have hB0 : Below w.heap.size w (w.alloc (.cells (mc m lp lc dp dc) 28)) := (Below.refl _ _).alloc (Nat.le_refl _) _
  have hfew := fun w1 h => few_any m lp dp lc dc w1 h (by omega) (by omega) true (by simp; omega)
  have hgood := fun w1 h => good_any m lp dp lc dc w1 h (by omega) (by omega)
  have hlg : (goodM m).list.length ≤ 10 := by show ((m.list.take 10).map _).length ≤ 10; simp; omega
  have hdg : (goodM m).data.length ≤ 6000 := by show (m.data.take 6000).length ≤ 6000; simp; omega
  have henc := fun w1 lp' lc' h => encode_any (goodM m) lp' dp lc' dc w1 h (by omega) (by omega)
  rw [good_encE m] at henc
  obtain ⟨xs, hxs, hxl⟩ := good_len m hk
  rw [hxs] at henc
  rw [hkind] at hxl henc
  have hlen : Hid ((((3 : Int) :: xs).length : Int) = 2) := by show _ = _; rw [List.length_cons, hxl]; simp [restL]; try omega
  have hfld := fun (w' : World) (lp' : Option Addr) (lc' B : Nat) h1 h2 => goodFld (w' := w') (lp' := lp') (lc' := lc') (B := B) hF h1 h2
  clear hxl hxs
  generalize goodM m = gm at *
  go_enter Try.func8, Try.ntmps8
  go_upto_region 6 with (first | (go_at_call 9; (with_reducible refine Calls.mono (known_any _) ?_); rintro e w1 ⟨rfl, hb1⟩; have hR1 := hR0.below hb1 hR0.lt; have hF1 := hF0.below hb1) | (refine load_rowW ?hw 28 (.tmp 1) (by rfl) w.heap.size (by rfl) 28 (mc m lp lc dp dc) (0, 0) _ hR1 Try.underlying28 rfl ?hi ?_; (case hw => rfl); (case hi => rw [mc_size hk]; exact info28)) | (go_at_call 10; (with_reducible refine Calls.mono (hfew _ hF1) ?_); rintro e w2 ⟨rfl, hb2⟩; replace hR1 := hR1.below hb2 hR1.lt; have hF2 := hF1.below hb2; have hb02 := hB0.trans ((hb1.mono hB0.size).trans (hb2.mono (Nat.le_trans hB0.size hb1.size)))) | (go_at_call 16; (with_reducible refine Calls.mono (hgood _ hF2) ?_); rintro e w3 ⟨lp3, lc3, rfl, ho3, hb3⟩; replace hR1 := hR1.below hb3 hR1.lt; have hb03 := hb02.trans (hb3.mono hb02.size)) | (refine store_row0 28 (.tmp 1) (.tmp 12) (by rfl) (by rfl) (by rfl) w.heap.size (mc gm lp3 lc3 dp dc) (by rfl) (by rfl) 28 (mc m lp lc dp dc) hR1 ?hi ?hold mc_one ?_; (case hi => rw [mc_size hkg]; exact info28); (case hold => rw [mc_size hkg, mc_size hk])))
  have hR := hR1.setRow (mc gm lp3 lc3 dp dc)
  have hb4 : Below w.heap.size w (w3.setRow w.heap.size (mc gm lp3 lc3 dp dc)) := below_setRow hb03 (Nat.le_refl _) _
  have ho4 := ho3.keepRow hR1 (by decide) (mc gm lp3 lc3 dp dc)
  have hF4 := hfld _ _ _ _ hb4 ho4
  generalize w3.setRow w.heap.size (mc gm lp3 lc3 dp dc) = W4 at *
  have hsz4 := hR.lt
  clear hR1 hR0 hF0 hB0 hgood hfew ho3 hb3 hb1 hb2 hF1 hF2
  go_upto_region 27 with (first | (refine load_rowW ?hw 28 (.tmp 1) (by rfl) w.heap.size (by rfl) 28 (mc gm lp3 lc3 dp dc) (0, 0) _ hR Try.underlying28 rfl ?hi ?_; (case hw => rfl); (case hi => rw [mc_size hkg]; exact info28)) | (go_at_call 11; (with_reducible refine Calls.mono (henc _ _ _ hF4) ?_); rintro e w5 ⟨sp, cap, rfl, ho5, hb5⟩; have hR5 := hR.below hb5 hsz4; have hc0 : w5.cell? ⟨w.heap.size, 0, none⟩ = some (.int .i64 3) := hR5.cell.trans (by rw [mc0, hkind]); have hc3 : w5.cell? ⟨w.heap.size, 3, none⟩ = some (.slice lp3 gm.list.length lc3) := hR5.cell.trans mc3; have hc37 : w5.cell? ⟨w.heap.size, 37, none⟩ = some (.slice dp gm.data.length dc) := hR5.cell.trans (mc37 hkg)))
  obtain ⟨b, o, rfl, hcb⟩ := ho5.bytes (by simp)
  have k0 : w5.cell? ⟨b, o, none⟩ = some (.int .u8 3) := by
    have := hcb 0 (by simp)
    simpa [gi] using this
  have hq : ((xs.length : Int) + 1 == 2) = true := by
    have := hlen.out
    simp only [List.length_cons] at this
    simp only [beq_iff_eq]
    omega
  have hq2 : (((xs.length + 1 : Nat) : Int) == 2) = true := by simpa using hq
  clear hlen hcb
  go_quiet (fail)
  go_wp2
  go_ret
  exact ⟨rfl, below_drewN (hb4.trans (hb5.mono hb4.size)) _⟩
set_option maxRecDepth 20000 in
set_option maxHeartbeats 1000000 in
theorem len4 (m : M) (lp dp : Option Addr) (lc dc : Nat) (w : World) (hF : Fld w m lp lc dp dc) (h1 : m.list.length < 50) (h2 : m.data.length < 8000) (hkind : (goodM m).kind = 4) :
    Calls Try.prog 8 #[.agg (mc m lp lc dp dc)] w fun e w' => e = .returned (.bool true) ∧ Below w.heap.size w w' := by
  have hk := hF.key
  have hkg : (goodM m).key.length = 32 := hk
  have hR0 := Row.new w 28 (mc m lp lc dp dc)
  have hF0 := hF.below ((Below.refl _ _).alloc (Nat.le_refl _) (.cells (mc m lp lc dp dc) 28))
  have hB0 : Below w.heap.size w (w.alloc (.cells (mc m lp lc dp dc) 28)) := (Below.refl _ _).alloc (Nat.le_refl _) _
  have hfew := fun w1 h => few_any m lp dp lc dc w1 h (by omega) (by omega) true (by simp; omega)
  have hgood := fun w1 h => good_any m lp dp lc dc w1 h (by omega) (by omega)
  have hlg : (goodM m).list.length ≤ 10 := by show ((m.list.take 10).map _).length ≤ 10; simp; omega
  have hdg : (goodM m).data.length ≤ 6000 := by show (m.data.take 6000).length ≤ 6000; simp; omega
  have henc := fun w1 lp' lc' h => encode_any (goodM m) lp' dp lc' dc w1 h (by omega) (by omega)
  rw [good_encE m] at henc
  obtain ⟨xs, hxs, hxl⟩ := good_len m hk
  rw [hxs] at henc
  rw [hkind] at hxl henc
  have hlen : Hid ((((4 : Int) :: xs).length : Int) = 2) := by show _ = _; rw [List.length_cons, hxl]; simp [restL]; try omega
  have hfld := fun (w' : World) (lp' : Option Addr) (lc' B : Nat) h1 h2 => goodFld (w' := w') (lp' := lp') (lc' := lc') (B := B) hF h1 h2
  clear hxl hxs
  generalize goodM m = gm at *
  go_enter Try.func8, Try.ntmps8
  go_upto_region 6 with (first | (go_at_call 9; (with_reducible refine Calls.mono (known_any _) ?_); rintro e w1 ⟨rfl, hb1⟩; have hR1 := hR0.below hb1 hR0.lt; have hF1 := hF0.below hb1) | (refine load_rowW ?hw 28 (.tmp 1) (by rfl) w.heap.size (by rfl) 28 (mc m lp lc dp dc) (0, 0) _ hR1 Try.underlying28 rfl ?hi ?_; (case hw => rfl); (case hi => rw [mc_size hk]; exact info28)) | (go_at_call 10; (with_reducible refine Calls.mono (hfew _ hF1) ?_); rintro e w2 ⟨rfl, hb2⟩; replace hR1 := hR1.below hb2 hR1.lt; have hF2 := hF1.below hb2; have hb02 := hB0.trans ((hb1.mono hB0.size).trans (hb2.mono (Nat.le_trans hB0.size hb1.size)))) | (go_at_call 16; (with_reducible refine Calls.mono (hgood _ hF2) ?_); rintro e w3 ⟨lp3, lc3, rfl, ho3, hb3⟩; replace hR1 := hR1.below hb3 hR1.lt; have hb03 := hb02.trans (hb3.mono hb02.size)) | (refine store_row0 28 (.tmp 1) (.tmp 12) (by rfl) (by rfl) (by rfl) w.heap.size (mc gm lp3 lc3 dp dc) (by rfl) (by rfl) 28 (mc m lp lc dp dc) hR1 ?hi ?hold mc_one ?_; (case hi => rw [mc_size hkg]; exact info28); (case hold => rw [mc_size hkg, mc_size hk])))
  have hR := hR1.setRow (mc gm lp3 lc3 dp dc)
  have hb4 : Below w.heap.size w (w3.setRow w.heap.size (mc gm lp3 lc3 dp dc)) := below_setRow hb03 (Nat.le_refl _) _
  have ho4 := ho3.keepRow hR1 (by decide) (mc gm lp3 lc3 dp dc)
  have hF4 := hfld _ _ _ _ hb4 ho4
  generalize w3.setRow w.heap.size (mc gm lp3 lc3 dp dc) = W4 at *
  have hsz4 := hR.lt
  clear hR1 hR0 hF0 hB0 hgood hfew ho3 hb3 hb1 hb2 hF1 hF2
  go_upto_region 27 with (first | (refine load_rowW ?hw 28 (.tmp 1) (by rfl) w.heap.size (by rfl) 28 (mc gm lp3 lc3 dp dc) (0, 0) _ hR Try.underlying28 rfl ?hi ?_; (case hw => rfl); (case hi => rw [mc_size hkg]; exact info28)) | (go_at_call 11; (with_reducible refine Calls.mono (henc _ _ _ hF4) ?_); rintro e w5 ⟨sp, cap, rfl, ho5, hb5⟩; have hR5 := hR.below hb5 hsz4; have hc0 : w5.cell? ⟨w.heap.size, 0, none⟩ = some (.int .i64 4) := hR5.cell.trans (by rw [mc0, hkind]); have hc3 : w5.cell? ⟨w.heap.size, 3, none⟩ = some (.slice lp3 gm.list.length lc3) := hR5.cell.trans mc3; have hc37 : w5.cell? ⟨w.heap.size, 37, none⟩ = some (.slice dp gm.data.length dc) := hR5.cell.trans (mc37 hkg)))
  obtain ⟨b, o, rfl, hcb⟩ := ho5.bytes (by simp)
  have k0 : w5.cell? ⟨b, o, none⟩ = some (.int .u8 4) := by
    have := hcb 0 (by simp)
    simpa [gi] using this
  have hq : ((xs.length : Int) + 1 == 2) = true := by
    have := hlen.out
    simp only [List.length_cons] at this
    simp only [beq_iff_eq]
    omega
  have hq2 : (((xs.length + 1 : Nat) : Int) == 2) = true := by simpa using hq
  clear hlen hcb
  go_quiet (fail)
  go_wp2
  go_ret
  exact ⟨rfl, below_drewN (hb4.trans (hb5.mono hb4.size)) _⟩
set_option maxRecDepth 20000 in
set_option maxHeartbeats 1000000 in
theorem len5 (m : M) (lp dp : Option Addr) (lc dc : Nat) (w : World) (hF : Fld w m lp lc dp dc) (h1 : m.list.length < 50) (h2 : m.data.length < 8000) (hkind : (goodM m).kind = 5) :
    Calls Try.prog 8 #[.agg (mc m lp lc dp dc)] w fun e w' => e = .returned (.bool true) ∧ Below w.heap.size w w' := by
  have hk := hF.key
  have hkg : (goodM m).key.length = 32 := hk
  have hR0 := Row.new w 28 (mc m lp lc dp dc)
  have hF0 := hF.below ((Below.refl _ _).alloc (Nat.le_refl _) (.cells (mc m lp lc dp dc) 28))
  have hB0 : Below w.heap.size w (w.alloc (.cells (mc m lp lc dp dc) 28)) := (Below.refl _ _).alloc (Nat.le_refl _) _
  have hfew := fun w1 h => few_any m lp dp lc dc w1 h (by omega) (by omega) true (by simp; omega)
  have hgood := fun w1 h => good_any m lp dp lc dc w1 h (by omega) (by omega)
  have hlg : (goodM m).list.length ≤ 10 := by show ((m.list.take 10).map _).length ≤ 10; simp; omega
  have hdg : (goodM m).data.length ≤ 6000 := by show (m.data.take 6000).length ≤ 6000; simp; omega
  have henc := fun w1 lp' lc' h => encode_any (goodM m) lp' dp lc' dc w1 h (by omega) (by omega)
  rw [good_encE m] at henc
  obtain ⟨xs, hxs, hxl⟩ := good_len m hk
  rw [hxs] at henc
  rw [hkind] at hxl henc
  have hlen : Hid ((((5 : Int) :: xs).length : Int) = 33) := by show _ = _; rw [List.length_cons, hxl]; simp [restL]; try omega
  have hfld := fun (w' : World) (lp' : Option Addr) (lc' B : Nat) h1 h2 => goodFld (w' := w') (lp' := lp') (lc' := lc') (B := B) hF h1 h2
  clear hxl hxs
  generalize goodM m = gm at *
  go_enter Try.func8, Try.ntmps8
  go_upto_region 6 with (first | (go_at_call 9; (with_reducible refine Calls.mono (known_any _) ?_); rintro e w1 ⟨rfl, hb1⟩; have hR1 := hR0.below hb1 hR0.lt; have hF1 := hF0.below hb1) | (refine load_rowW ?hw 28 (.tmp 1) (by rfl) w.heap.size (by rfl) 28 (mc m lp lc dp dc) (0, 0) _ hR1 Try.underlying28 rfl ?hi ?_; (case hw => rfl); (case hi => rw [mc_size hk]; exact info28)) | (go_at_call 10; (with_reducible refine Calls.mono (hfew _ hF1) ?_); rintro e w2 ⟨rfl, hb2⟩; replace hR1 := hR1.below hb2 hR1.lt; have hF2 := hF1.below hb2; have hb02 := hB0.trans ((hb1.mono hB0.size).trans (hb2.mono (Nat.le_trans hB0.size hb1.size)))) | (go_at_call 16; (with_reducible refine Calls.mono (hgood _ hF2) ?_); rintro e w3 ⟨lp3, lc3, rfl, ho3, hb3⟩; replace hR1 := hR1.below hb3 hR1.lt; have hb03 := hb02.trans (hb3.mono hb02.size)) | (refine store_row0 28 (.tmp 1) (.tmp 12) (by rfl) (by rfl) (by rfl) w.heap.size (mc gm lp3 lc3 dp dc) (by rfl) (by rfl) 28 (mc m lp lc dp dc) hR1 ?hi ?hold mc_one ?_; (case hi => rw [mc_size hkg]; exact info28); (case hold => rw [mc_size hkg, mc_size hk])))
  have hR := hR1.setRow (mc gm lp3 lc3 dp dc)
  have hb4 : Below w.heap.size w (w3.setRow w.heap.size (mc gm lp3 lc3 dp dc)) := below_setRow hb03 (Nat.le_refl _) _
  have ho4 := ho3.keepRow hR1 (by decide) (mc gm lp3 lc3 dp dc)
  have hF4 := hfld _ _ _ _ hb4 ho4
  generalize w3.setRow w.heap.size (mc gm lp3 lc3 dp dc) = W4 at *
  have hsz4 := hR.lt
  clear hR1 hR0 hF0 hB0 hgood hfew ho3 hb3 hb1 hb2 hF1 hF2
  go_upto_region 27 with (first | (refine load_rowW ?hw 28 (.tmp 1) (by rfl) w.heap.size (by rfl) 28 (mc gm lp3 lc3 dp dc) (0, 0) _ hR Try.underlying28 rfl ?hi ?_; (case hw => rfl); (case hi => rw [mc_size hkg]; exact info28)) | (go_at_call 11; (with_reducible refine Calls.mono (henc _ _ _ hF4) ?_); rintro e w5 ⟨sp, cap, rfl, ho5, hb5⟩; have hR5 := hR.below hb5 hsz4; have hc0 : w5.cell? ⟨w.heap.size, 0, none⟩ = some (.int .i64 5) := hR5.cell.trans (by rw [mc0, hkind]); have hc3 : w5.cell? ⟨w.heap.size, 3, none⟩ = some (.slice lp3 gm.list.length lc3) := hR5.cell.trans mc3; have hc37 : w5.cell? ⟨w.heap.size, 37, none⟩ = some (.slice dp gm.data.length dc) := hR5.cell.trans (mc37 hkg)))
  obtain ⟨b, o, rfl, hcb⟩ := ho5.bytes (by simp)
  have k0 : w5.cell? ⟨b, o, none⟩ = some (.int .u8 5) := by
    have := hcb 0 (by simp)
    simpa [gi] using this
  have hq : ((xs.length : Int) + 1 == 33) = true := by
    have := hlen.out
    simp only [List.length_cons] at this
    simp only [beq_iff_eq]
    omega
  have hq2 : (((xs.length + 1 : Nat) : Int) == 33) = true := by simpa using hq
  clear hlen hcb
  go_quiet (fail)
  go_wp2
  go_ret
  exact ⟨rfl, below_drewN (hb4.trans (hb5.mono hb4.size)) _⟩
set_option maxRecDepth 20000 in
set_option maxHeartbeats 1000000 in
theorem len6 (m : M) (lp dp : Option Addr) (lc dc : Nat) (w : World) (hF : Fld w m lp lc dp dc) (h1 : m.list.length < 50) (h2 : m.data.length < 8000) (hkind : (goodM m).kind = 6) :
    Calls Try.prog 8 #[.agg (mc m lp lc dp dc)] w fun e w' => e = .returned (.bool true) ∧ Below w.heap.size w w' := by
  have hk := hF.key
  have hkg : (goodM m).key.length = 32 := hk
  have hR0 := Row.new w 28 (mc m lp lc dp dc)
  have hF0 := hF.below ((Below.refl _ _).alloc (Nat.le_refl _) (.cells (mc m lp lc dp dc) 28))
  have hB0 : Below w.heap.size w (w.alloc (.cells (mc m lp lc dp dc) 28)) := (Below.refl _ _).alloc (Nat.le_refl _) _
  have hfew := fun w1 h => few_any m lp dp lc dc w1 h (by omega) (by omega) true (by simp; omega)
  have hgood := fun w1 h => good_any m lp dp lc dc w1 h (by omega) (by omega)
  have hlg : (goodM m).list.length ≤ 10 := by show ((m.list.take 10).map _).length ≤ 10; simp; omega
  have hdg : (goodM m).data.length ≤ 6000 := by show (m.data.take 6000).length ≤ 6000; simp; omega
  have henc := fun w1 lp' lc' h => encode_any (goodM m) lp' dp lc' dc w1 h (by omega) (by omega)
  rw [good_encE m] at henc
  obtain ⟨xs, hxs, hxl⟩ := good_len m hk
  rw [hxs] at henc
  rw [hkind] at hxl henc
  have hlen : Hid ((((6 : Int) :: xs).length : Int) = 3 + ((goodM m).list.length : Int)) := by show _ = _; rw [List.length_cons, hxl]; simp [restL]; try omega
  have hfld := fun (w' : World) (lp' : Option Addr) (lc' B : Nat) h1 h2 => goodFld (w' := w') (lp' := lp') (lc' := lc') (B := B) hF h1 h2
  clear hxl hxs
  generalize goodM m = gm at *
  go_enter Try.func8, Try.ntmps8
  go_upto_region 6 with (first | (go_at_call 9; (with_reducible refine Calls.mono (known_any _) ?_); rintro e w1 ⟨rfl, hb1⟩; have hR1 := hR0.below hb1 hR0.lt; have hF1 := hF0.below hb1) | (refine load_rowW ?hw 28 (.tmp 1) (by rfl) w.heap.size (by rfl) 28 (mc m lp lc dp dc) (0, 0) _ hR1 Try.underlying28 rfl ?hi ?_; (case hw => rfl); (case hi => rw [mc_size hk]; exact info28)) | (go_at_call 10; (with_reducible refine Calls.mono (hfew _ hF1) ?_); rintro e w2 ⟨rfl, hb2⟩; replace hR1 := hR1.below hb2 hR1.lt; have hF2 := hF1.below hb2; have hb02 := hB0.trans ((hb1.mono hB0.size).trans (hb2.mono (Nat.le_trans hB0.size hb1.size)))) | (go_at_call 16; (with_reducible refine Calls.mono (hgood _ hF2) ?_); rintro e w3 ⟨lp3, lc3, rfl, ho3, hb3⟩; replace hR1 := hR1.below hb3 hR1.lt; have hb03 := hb02.trans (hb3.mono hb02.size)) | (refine store_row0 28 (.tmp 1) (.tmp 12) (by rfl) (by rfl) (by rfl) w.heap.size (mc gm lp3 lc3 dp dc) (by rfl) (by rfl) 28 (mc m lp lc dp dc) hR1 ?hi ?hold mc_one ?_; (case hi => rw [mc_size hkg]; exact info28); (case hold => rw [mc_size hkg, mc_size hk])))
  have hR := hR1.setRow (mc gm lp3 lc3 dp dc)
  have hb4 : Below w.heap.size w (w3.setRow w.heap.size (mc gm lp3 lc3 dp dc)) := below_setRow hb03 (Nat.le_refl _) _
  have ho4 := ho3.keepRow hR1 (by decide) (mc gm lp3 lc3 dp dc)
  have hF4 := hfld _ _ _ _ hb4 ho4
  generalize w3.setRow w.heap.size (mc gm lp3 lc3 dp dc) = W4 at *
  have hsz4 := hR.lt
  clear hR1 hR0 hF0 hB0 hgood hfew ho3 hb3 hb1 hb2 hF1 hF2
  go_upto_region 27 with (first | (refine load_rowW ?hw 28 (.tmp 1) (by rfl) w.heap.size (by rfl) 28 (mc gm lp3 lc3 dp dc) (0, 0) _ hR Try.underlying28 rfl ?hi ?_; (case hw => rfl); (case hi => rw [mc_size hkg]; exact info28)) | (go_at_call 11; (with_reducible refine Calls.mono (henc _ _ _ hF4) ?_); rintro e w5 ⟨sp, cap, rfl, ho5, hb5⟩; have hR5 := hR.below hb5 hsz4; have hc0 : w5.cell? ⟨w.heap.size, 0, none⟩ = some (.int .i64 6) := hR5.cell.trans (by rw [mc0, hkind]); have hc3 : w5.cell? ⟨w.heap.size, 3, none⟩ = some (.slice lp3 gm.list.length lc3) := hR5.cell.trans mc3; have hc37 : w5.cell? ⟨w.heap.size, 37, none⟩ = some (.slice dp gm.data.length dc) := hR5.cell.trans (mc37 hkg)))
  obtain ⟨b, o, rfl, hcb⟩ := ho5.bytes (by simp)
  have k0 : w5.cell? ⟨b, o, none⟩ = some (.int .u8 6) := by
    have := hcb 0 (by simp)
    simpa [gi] using this
  have hq : ((xs.length : Int) + 1 == 3 + (gm.list.length : Int)) = true := by
    have := hlen.out
    simp only [List.length_cons] at this
    simp only [beq_iff_eq]
    omega
  have hq2 : (((xs.length + 1 : Nat) : Int) == 3 + (gm.list.length : Int)) = true := by simpa using hq
  clear hlen hcb
  go_quiet (fail)
  go_wp2
  go_ret
  exact ⟨rfl, below_drewN (hb4.trans (hb5.mono hb4.size)) _⟩
end Go.Proofs.Ytcdmjjlbeifgjaa
