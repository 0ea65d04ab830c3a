/- lms.Check: a leaf's number that there is none of. No old memory turns. -/
import Derived.Test.YtoebnkepeledmaaDoorLmsPx
namespace Go.Proofs.YtoebnkepeledmaaDoor
open Go Go.RowKit

set_option maxRecDepth 20000 in
set_option maxHeartbeats 1000000 in
theorem lCheck_num (P : List Int) (pp mp sp : Option Addr) (pl pc ml mc sl sc : Nat) (w0 : World) (hPl : P.length = pl) (hpc : pl ≤ pc) (hPb : Bytes w0 pp P) (hPr : ∀ x ∈ P, 0 ≤ x ∧ x < 256) (sig : List Int) (hsl : sig.length = sl) (hsc : sl ≤ sc) (hsb : Bytes w0 sp sig) (hsr : ∀ x ∈ sig, 0 ≤ x ∧ x < 256) (h : Nat) (hk : keyOk P) (hh : num4 P 0 = (h : Int)) (hne : sl = 4300 + 32 * h) (hx : num4 sig 4296 = (h : Int)) (hq : num4 sig 0 ≥ ((2 ^ h : Nat) : Int)) :
    Calls Tryd.prog 27 #[.slice pp pl pc, .slice mp ml mc, .slice sp sl sc] w0 fun e w' => e = .returned (.int .i64 12) ∧ Below w0.heap.size w0 w' := by
  have hko := fun wx hb => keyOf_ok P pp pl pc wx hPl hpc hb hPr hk
  obtain ⟨hP56, g1, g2, g3⟩ := hk
  have hNl : ((P.drop 8).take 16).length = 16 := by simp; omega
  have hTl : (cutL P 24).length = 32 := by unfold cutL; simp; omega
  have h1 : 1 ≤ h := by omega
  have h5 : h ≤ 5 := by omega
  rw [hh] at hko
  clear hh g1 g2 g3
  have hsz := fun wx => sigSize_any h wx (by omega)
  generalize (P.drop 8).take 16 = NM at *
  generalize cutL P 24 = TOP at *
  have z1 := zkey
  have hn0 : ∀ wx, Bytes wx sp sig → Calls Tryd.prog 53 #[.slice sp sl sc, .int .i64 0] wx fun e w' => e = .returned (.int .u32 (num4 sig 0)) ∧ Below wx.heap.size wx w' := fun wx hb => numberAt_any sig sp sl sc 0 wx hsl hsc (by omega) hb hsr
  have hr0 := num4_range (k := 0) hsr (by omega)
  have hlv := fun wx => leaves_any h wx h1 h5
  have hn32 : 2 ≤ 2 ^ h ∧ 2 ^ h ≤ 32 := by
    rcases (by omega : h = 1 ∨ h = 2 ∨ h = 3 ∨ h = 4 ∨ h = 5) with rfl | rfl | rfl | rfl | rfl <;> decide
  have hn96 : ∀ wx, Bytes wx sp sig → Calls Tryd.prog 53 #[.slice sp sl sc, .int .i64 4296] wx fun e w' => e = .returned (.int .u32 (num4 sig 4296)) ∧ Below wx.heap.size wx w' := fun wx hb => numberAt_any sig sp sl sc 4296 wx hsl hsc (by omega) hb hsr
  have hw32 : IntKind.wrap .u32 (h : Int) = (h : Int) := by rw [IntKind.wrap_u32]; omega
  have hneb : ((sl : Int) != 4300 + (h : Int) * 32) = false := by simp; omega
  rw [hx] at hn96
  have hxb : ((h : Int) != (h : Int)) = false := by simp
  clear hx
  clear hne
  generalize num4 sig 0 = x0 at *
  generalize 2 ^ h = n at *
  have hwn : IntKind.wrap .u32 (n : Int) = (n : Int) := by rw [IntKind.wrap_u32]; omega
  have hgt : decide (x0 ≥ (n : Int)) = true := decide_eq_true hq
  clear hq
  go_enter Tryd.func27, Tryd.ntmps27
  go_upto_region 2 with (first | (go_at_call 52; (with_reducible refine Calls.mono (hko _ hPb) ?_); rintro e w2 ⟨rfl, hb2⟩) | (refine store_row0 80 (.tmp 7) (.tmp 16) (by rfl) (by rfl) (by rfl) w2.heap.size (kc NM (h : Int) TOP) (by rfl) (by rfl) 80 kz (Row.new w2 80 _) (key_info hNl hTl) (by rw [kc_size hNl hTl]; rfl) (kc_one _ _ _) ?_))
  have r7 : Row ((w2.alloc (.cells kz 80)).setRow w2.heap.size (kc NM (h : Int) TOP)) w2.heap.size 80 (kc NM (h : Int) TOP) := (Row.new w2 80 _).setRow _
  have rb : Below w0.heap.size w0 ((w2.alloc (.cells kz 80)).setRow w2.heap.size (kc NM (h : Int) TOP)) := below_setRow (hb2.alloc hb2.size _) hb2.size _
  obtain ⟨g7, hg7⟩ : ∃ g7, g7 = w2.heap.size := ⟨_, rfl⟩
  have hg7b : w0.heap.size ≤ g7 := by have := hb2.size; omega
  change Code.wp _ _ _ _ ((w2.alloc (.cells kz 80)).setRow w2.heap.size (kc NM (h : Int) TOP))
  rw [← hg7] at r7 rb ⊢
  generalize (w2.alloc (.cells kz 80)).setRow g7 (kc NM (h : Int) TOP) = w3 at r7 rb ⊢
  clear hg7 hb2 hko
  go_upto_region 4 with fail
  refine region_tail 13 (by kernel_rfl) (by kernel_rfl) (by kernel_rfl) ?_
  apply Exists.intro
  refine ⟨fun ι _ W hb hc => ?_, fun w6 hb6 => ?_⟩
  · have t7 : ∀ i, (W i).cell? ⟨g7, 16, none⟩ = some (.int .i64 (h : Int)) := fun i => kc_height (r7.below (hb i) r7.lt) hNl
    simp only [List.take_succ_cons, List.take_zero]
    iterate 4 (go_big_quiet_step (fail))
    go_big_quiet_step ((go_at_call 50; exact (hsz _).mono (fun e w' ⟨he, hw⟩ => ⟨he, _, hw⟩)))
    iterate 3 (go_big_quiet_step (fail))
    go_big_quiet_step ((go_at_call 53; exact (hn96 _ ((hsb.below rb).below (hb _))).mono (fun e w' ⟨he, hw⟩ => ⟨he, hc _ _ hw⟩)))
    iterate 4 (go_big_quiet_step (fail))
    exact wpQuiet_nil rfl
  · simp only [List.drop_succ_cons, List.drop_zero]
    have y7 := r7.below hb6 r7.lt
    have yb := rb.trans (hb6.mono rb.size)
    have k6 := kc_height y7 hNl
    clear r7 rb hb6
    go_wp2_with (first | (go_at_call 53; (with_reducible refine Calls.mono (hn0 _ (hsb.below yb)) ?_); rintro e w8 ⟨rfl, hb8⟩; have y8 := y7.below hb8 y7.lt; have yb8 := yb.trans (hb8.mono yb.size); have k8 := kc_height y8 hNl; clear k6) | (go_at_call 49; (with_reducible refine Calls.mono (hlv _) ?_); rintro e w9 ⟨rfl, hw⟩; obtain rfl := hw.symm; clear hw))
    go_ret
    exact ⟨rfl, yb8⟩
end Go.Proofs.YtoebnkepeledmaaDoor
