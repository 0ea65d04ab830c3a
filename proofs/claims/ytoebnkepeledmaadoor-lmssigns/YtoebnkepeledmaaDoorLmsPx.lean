/- lms.Check: the answers it comes to early. No old memory turns. -/
import Derived.Test.YtoebnkepeledmaaDoorLmsNx
namespace Go.Proofs.YtoebnkepeledmaaDoor
open Go Go.RowKit

set_option maxRecDepth 20000 in
set_option maxHeartbeats 1000000 in
theorem keyOf_bad (P : List Int) (sp : Option Addr) (len cap : Nat) (w : World) (hl : P.length = len) (hcap : len ≤ cap) (hby : Bytes w sp P) (hr : ∀ x ∈ P, 0 ≤ x ∧ x < 256) (hk : ¬ keyOk P) :
    Calls Tryd.prog 52 #[.slice sp len cap] w fun e w' => e = .returned (.tuple #[.agg kz, .bool false]) ∧ Below w.heap.size w w' := by
  by_cases hlen : len = 56
  · by_cases h1 : num4 P 0 < 1
    · exact keyOf_low P sp len cap w hl hcap hby hr hlen h1
    · by_cases h2 : num4 P 0 > 5
      · exact keyOf_high P sp len cap w hl hcap hby hr hlen h2
      · by_cases h3 : num4 P 4 = 2
        · exact absurd ⟨by omega, by omega, by omega, h3⟩ hk
        · exact keyOf_type P sp len cap w hl hcap hby hr hlen h1 h2 h3
  · exact keyOf_len sp len cap w hlen
set_option maxRecDepth 20000 in
set_option maxHeartbeats 1000000 in
theorem lCheck_key (P : List Int) (pp mp sp : Option Addr) (pl pc ml mc sl sc : Nat) (w0 : World) (hPl : P.length = pl) (hpc : pl ≤ pc) (hPb : Bytes w0 pp P) (hPr : ∀ x ∈ P, 0 ≤ x ∧ x < 256) (hk : ¬ keyOk P) :
    Calls Tryd.prog 27 #[.slice pp pl pc, .slice mp ml mc, .slice sp sl sc] w0 fun e w' => e = .returned (.int .i64 11) ∧ Below w0.heap.size w0 w' := by
  have hko := fun wx hb => keyOf_bad P pp pl pc wx hPl hpc hb hPr hk
  have z1 := zkey
  go_enter Tryd.func27, Tryd.ntmps27
  go_wp2_with (first | (go_at_call 52; (with_reducible refine Calls.mono (hko _ hPb) ?_); rintro e w2 ⟨rfl, hb2⟩) | (refine store_row0 80 (.tmp 7) (.tmp 16) (by rfl) (by rfl) (by rfl) w2.heap.size (kz) (by rfl) (by rfl) 80 kz (Row.new w2 80 _) (key_info (zer_len 16) (zer_len 32)) rfl (kc_one _ _ _) ?_))
  go_ret
  exact ⟨rfl, below_setRow (hb2.alloc hb2.size _) hb2.size _⟩
set_option maxRecDepth 20000 in
set_option maxHeartbeats 1000000 in
theorem lCheck_len (P : List Int) (pp mp sp : Option Addr) (pl pc ml mc sl sc : Nat) (w0 : World) (hPl : P.length = pl) (hpc : pl ≤ pc) (hPb : Bytes w0 pp P) (hPr : ∀ x ∈ P, 0 ≤ x ∧ x < 256) (h : Nat) (hk : keyOk P) (hh : num4 P 0 = (h : Int)) (hne : sl ≠ 4300 + 32 * h) :
    Calls Tryd.prog 27 #[.slice pp pl pc, .slice mp ml mc, .slice sp sl sc] w0 fun e w' => e = .returned (.int .i64 12) ∧ Below w0.heap.size w0 w' := by
  have hko := fun wx hb => keyOf_ok P pp pl pc wx hPl hpc hb hPr hk
  obtain ⟨hP56, g1, g2, g3⟩ := hk
  have hNl : ((P.drop 8).take 16).length = 16 := by simp; omega
  have hTl : (cutL P 24).length = 32 := by unfold cutL; simp; omega
  have h1 : 1 ≤ h := by omega
  have h5 : h ≤ 5 := by omega
  rw [hh] at hko
  clear hh g1 g2 g3
  have hsz := fun wx => sigSize_any h wx (by omega)
  generalize (P.drop 8).take 16 = NM at *
  generalize cutL P 24 = TOP at *
  have z1 := zkey
  have hneb : ((sl : Int) != 4300 + (h : Int) * 32) = true := by simp; omega
  go_enter Tryd.func27, Tryd.ntmps27
  go_upto_region 2 with (first | (go_at_call 52; (with_reducible refine Calls.mono (hko _ hPb) ?_); rintro e w2 ⟨rfl, hb2⟩) | (refine store_row0 80 (.tmp 7) (.tmp 16) (by rfl) (by rfl) (by rfl) w2.heap.size (kc NM (h : Int) TOP) (by rfl) (by rfl) 80 kz (Row.new w2 80 _) (key_info hNl hTl) (by rw [kc_size hNl hTl]; rfl) (kc_one _ _ _) ?_))
  have r7 : Row ((w2.alloc (.cells kz 80)).setRow w2.heap.size (kc NM (h : Int) TOP)) w2.heap.size 80 (kc NM (h : Int) TOP) := (Row.new w2 80 _).setRow _
  have rb : Below w0.heap.size w0 ((w2.alloc (.cells kz 80)).setRow w2.heap.size (kc NM (h : Int) TOP)) := below_setRow (hb2.alloc hb2.size _) hb2.size _
  obtain ⟨g7, hg7⟩ : ∃ g7, g7 = w2.heap.size := ⟨_, rfl⟩
  have hg7b : w0.heap.size ≤ g7 := by have := hb2.size; omega
  change Code.wp _ _ _ _ ((w2.alloc (.cells kz 80)).setRow w2.heap.size (kc NM (h : Int) TOP))
  rw [← hg7] at r7 rb ⊢
  generalize (w2.alloc (.cells kz 80)).setRow g7 (kc NM (h : Int) TOP) = w3 at r7 rb ⊢
  clear hg7 hb2 hko
  go_upto_region 4 with fail
  refine region_tail 13 (by kernel_rfl) (by kernel_rfl) (by kernel_rfl) ?_
  apply Exists.intro
  refine ⟨fun ι _ W hb hc => ?_, fun w6 hb6 => ?_⟩
  · have t7 : ∀ i, (W i).cell? ⟨g7, 16, none⟩ = some (.int .i64 (h : Int)) := fun i => kc_height (r7.below (hb i) r7.lt) hNl
    simp only [List.take_succ_cons, List.take_zero]
    iterate 4 (go_big_quiet_step (fail))
    go_big_quiet_step ((go_at_call 50; exact (hsz _).mono (fun e w' ⟨he, hw⟩ => ⟨he, _, hw⟩)))
    iterate 8 (go_big_quiet_step (fail))
    exact wpQuiet_nil rfl
  · simp only [List.drop_succ_cons, List.drop_zero]
    go_wp2
    go_ret
    exact ⟨rfl, rb.trans (hb6.mono rb.size)⟩
set_option maxRecDepth 20000 in
set_option maxHeartbeats 1000000 in
theorem lCheck_high (P : List Int) (pp mp sp : Option Addr) (pl pc ml mc sl sc : Nat) (w0 : World) (hPl : P.length = pl) (hpc : pl ≤ pc) (hPb : Bytes w0 pp P) (hPr : ∀ x ∈ P, 0 ≤ x ∧ x < 256) (sig : List Int) (hsl : sig.length = sl) (hsc : sl ≤ sc) (hsb : Bytes w0 sp sig) (hsr : ∀ x ∈ sig, 0 ≤ x ∧ x < 256) (h : Nat) (hk : keyOk P) (hh : num4 P 0 = (h : Int)) (hne : sl = 4300 + 32 * h) (hx : num4 sig 4296 ≠ (h : Int)) :
    Calls Tryd.prog 27 #[.slice pp pl pc, .slice mp ml mc, .slice sp sl sc] w0 fun e w' => e = .returned (.int .i64 12) ∧ Below w0.heap.size w0 w' := by
  have hko := fun wx hb => keyOf_ok P pp pl pc wx hPl hpc hb hPr hk
  obtain ⟨hP56, g1, g2, g3⟩ := hk
  have hNl : ((P.drop 8).take 16).length = 16 := by simp; omega
  have hTl : (cutL P 24).length = 32 := by unfold cutL; simp; omega
  have h1 : 1 ≤ h := by omega
  have h5 : h ≤ 5 := by omega
  rw [hh] at hko
  clear hh g1 g2 g3
  have hsz := fun wx => sigSize_any h wx (by omega)
  generalize (P.drop 8).take 16 = NM at *
  generalize cutL P 24 = TOP at *
  have z1 := zkey
  have hn96 : ∀ wx, Bytes wx sp sig → Calls Tryd.prog 53 #[.slice sp sl sc, .int .i64 4296] wx fun e w' => e = .returned (.int .u32 (num4 sig 4296)) ∧ Below wx.heap.size wx w' := fun wx hb => numberAt_any sig sp sl sc 4296 wx hsl hsc (by omega) hb hsr
  have hw32 : IntKind.wrap .u32 (h : Int) = (h : Int) := by rw [IntKind.wrap_u32]; omega
  have hneb : ((sl : Int) != 4300 + (h : Int) * 32) = false := by simp; omega
  clear hne
  generalize num4 sig 4296 = x96 at *
  have hxb : (x96 != (h : Int)) = true := by simpa using hx
  go_enter Tryd.func27, Tryd.ntmps27
  go_upto_region 2 with (first | (go_at_call 52; (with_reducible refine Calls.mono (hko _ hPb) ?_); rintro e w2 ⟨rfl, hb2⟩) | (refine store_row0 80 (.tmp 7) (.tmp 16) (by rfl) (by rfl) (by rfl) w2.heap.size (kc NM (h : Int) TOP) (by rfl) (by rfl) 80 kz (Row.new w2 80 _) (key_info hNl hTl) (by rw [kc_size hNl hTl]; rfl) (kc_one _ _ _) ?_))
  have r7 : Row ((w2.alloc (.cells kz 80)).setRow w2.heap.size (kc NM (h : Int) TOP)) w2.heap.size 80 (kc NM (h : Int) TOP) := (Row.new w2 80 _).setRow _
  have rb : Below w0.heap.size w0 ((w2.alloc (.cells kz 80)).setRow w2.heap.size (kc NM (h : Int) TOP)) := below_setRow (hb2.alloc hb2.size _) hb2.size _
  obtain ⟨g7, hg7⟩ : ∃ g7, g7 = w2.heap.size := ⟨_, rfl⟩
  have hg7b : w0.heap.size ≤ g7 := by have := hb2.size; omega
  change Code.wp _ _ _ _ ((w2.alloc (.cells kz 80)).setRow w2.heap.size (kc NM (h : Int) TOP))
  rw [← hg7] at r7 rb ⊢
  generalize (w2.alloc (.cells kz 80)).setRow g7 (kc NM (h : Int) TOP) = w3 at r7 rb ⊢
  clear hg7 hb2 hko
  go_upto_region 4 with fail
  refine region_tail 13 (by kernel_rfl) (by kernel_rfl) (by kernel_rfl) ?_
  apply Exists.intro
  refine ⟨fun ι _ W hb hc => ?_, fun w6 hb6 => ?_⟩
  · have t7 : ∀ i, (W i).cell? ⟨g7, 16, none⟩ = some (.int .i64 (h : Int)) := fun i => kc_height (r7.below (hb i) r7.lt) hNl
    simp only [List.take_succ_cons, List.take_zero]
    iterate 4 (go_big_quiet_step (fail))
    go_big_quiet_step ((go_at_call 50; exact (hsz _).mono (fun e w' ⟨he, hw⟩ => ⟨he, _, hw⟩)))
    iterate 3 (go_big_quiet_step (fail))
    go_big_quiet_step ((go_at_call 53; exact (hn96 _ ((hsb.below rb).below (hb _))).mono (fun e w' ⟨he, hw⟩ => ⟨he, hc _ _ hw⟩)))
    iterate 4 (go_big_quiet_step (fail))
    exact wpQuiet_nil rfl
  · simp only [List.drop_succ_cons, List.drop_zero]
    go_wp2
    go_ret
    exact ⟨rfl, rb.trans (hb6.mono rb.size)⟩
end Go.Proofs.YtoebnkepeledmaaDoor
