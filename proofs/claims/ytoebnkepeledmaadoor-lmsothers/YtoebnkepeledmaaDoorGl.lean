/- Check of lms by its ways. -/
import Derived.Test.YtoebnkepeledmaaDoorLmsNx
import Derived.Test.YtoebnkepeledmaaDoorGj
namespace Go.Proofs.YtoebnkepeledmaaDoor

section
open Go Go.RowKit

set_option maxRecDepth 20000 in
set_option maxHeartbeats 1000000 in
theorem keyOf_bad (P : List Int) (sp : Option Addr) (len cap : Nat) (w : World) (hl : P.length = len) (hcap : len ≤ cap) (hby : Bytes w sp P) (hr : ∀ x ∈ P, 0 ≤ x ∧ x < 256) (hk : ¬ keyOk P) :
    Calls Tryd.prog 52 #[.slice sp len cap] w fun e w' => e = .returned (.tuple #[.agg kz, .bool false]) ∧ Below w.heap.size w w' := by
  by_cases hlen : len = 56
  · by_cases h1 : num4 P 0 < 1
    · exact keyOf_low P sp len cap w hl hcap hby hr hlen h1
    · by_cases h2 : num4 P 0 > 5
      · exact keyOf_high P sp len cap w hl hcap hby hr hlen h2
      · by_cases h3 : num4 P 4 = 2
        · exact absurd ⟨by omega, by omega, by omega, h3⟩ hk
        · exact keyOf_type P sp len cap w hl hcap hby hr hlen h1 h2 h3
  · exact keyOf_len sp len cap w hlen
set_option maxRecDepth 20000 in
set_option maxHeartbeats 1000000 in
theorem lCheck_key (P : List Int) (pp mp sp : Option Addr) (pl pc ml mc sl sc : Nat) (w0 : World) (hPl : P.length = pl) (hpc : pl ≤ pc) (hPb : Bytes w0 pp P) (hPr : ∀ x ∈ P, 0 ≤ x ∧ x < 256) (hk : ¬ keyOk P) :
    Calls Tryd.prog 27 #[.slice pp pl pc, .slice mp ml mc, .slice sp sl sc] w0 fun e w' => e = .returned (.int .i64 11) ∧ Below w0.heap.size w0 w' := by
  have hko := fun wx hb => keyOf_bad P pp pl pc wx hPl hpc hb hPr hk
  have z1 := zkey
  go_enter Tryd.func27, Tryd.ntmps27
  go_wp2_with (first | (go_at_call 52; (with_reducible refine Calls.mono (hko _ hPb) ?_); rintro e w2 ⟨rfl, hb2⟩) | (refine store_row0 80 (.tmp 7) (.tmp 16) (by rfl) (by rfl) (by rfl) w2.heap.size (kz) (by rfl) (by rfl) 80 kz (Row.new w2 80 _) (key_info (zer_len 16) (zer_len 32)) rfl (kc_one _ _ _) ?_))
  go_ret
  exact ⟨rfl, below_setRow (hb2.alloc hb2.size _) hb2.size _⟩
set_option maxRecDepth 20000 in
set_option maxHeartbeats 1000000 in
theorem lCheck_len (P : List Int) (pp mp sp : Option Addr) (pl pc ml mc sl sc : Nat) (w0 : World) (hPl : P.length = pl) (hpc : pl ≤ pc) (hPb : Bytes w0 pp P) (hPr : ∀ x ∈ P, 0 ≤ x ∧ x < 256) (h : Nat) (hk : keyOk P) (hh : num4 P 0 = (h : Int)) (hne : sl ≠ 4300 + 32 * h) :
    Calls Tryd.prog 27 #[.slice pp pl pc, .slice mp ml mc, .slice sp sl sc] w0 fun e w' => e = .returned (.int .i64 12) ∧ Below w0.heap.size w0 w' := by
  have hko := fun wx hb => keyOf_ok P pp pl pc wx hPl hpc hb hPr hk
  obtain ⟨hP56, g1, g2, g3⟩ := hk
  have hNl : ((P.drop 8).take 16).length = 16 := by simp; omega
  have hTl : (cutL P 24).length = 32 := by unfold cutL; simp; omega
  have h1 : 1 ≤ h := by omega
  have h5 : h ≤ 5 := by omega
  rw [hh] at hko
  clear hh g1 g2 g3
  have hsz := fun wx => sigSize_any h wx (by omega)
  generalize (P.drop 8).take 16 = NM at *
  generalize cutL P 24 = TOP at *
  have z1 := zkey
  have hneb : ((sl : Int) != 4300 + (h : Int) * 32) = true := by simp; omega
  go_enter Tryd.func27, Tryd.ntmps27
  go_upto_region 2 with (first | (go_at_call 52; (with_reducible refine Calls.mono (hko _ hPb) ?_); rintro e w2 ⟨rfl, hb2⟩) | (refine store_row0 80 (.tmp 7) (.tmp 16) (by rfl) (by rfl) (by rfl) w2.heap.size (kc NM (h : Int) TOP) (by rfl) (by rfl) 80 kz (Row.new w2 80 _) (key_info hNl hTl) (by rw [kc_size hNl hTl]; rfl) (kc_one _ _ _) ?_))
  have r7 : Row ((w2.alloc (.cells kz 80)).setRow w2.heap.size (kc NM (h : Int) TOP)) w2.heap.size 80 (kc NM (h : Int) TOP) := (Row.new w2 80 _).setRow _
  have rb : Below w0.heap.size w0 ((w2.alloc (.cells kz 80)).setRow w2.heap.size (kc NM (h : Int) TOP)) := below_setRow (hb2.alloc hb2.size _) hb2.size _
  obtain ⟨g7, hg7⟩ : ∃ g7, g7 = w2.heap.size := ⟨_, rfl⟩
  have hg7b : w0.heap.size ≤ g7 := by have := hb2.size; omega
  change Code.wp _ _ _ _ ((w2.alloc (.cells kz 80)).setRow w2.heap.size (kc NM (h : Int) TOP))
  rw [← hg7] at r7 rb ⊢
  generalize (w2.alloc (.cells kz 80)).setRow g7 (kc NM (h : Int) TOP) = w3 at r7 rb ⊢
  clear hg7 hb2 hko
  go_upto_region 4 with fail
  refine region_tail 13 (by kernel_rfl) (by kernel_rfl) (by kernel_rfl) ?_
  apply Exists.intro
  refine ⟨fun ι _ W hb hc => ?_, fun w6 hb6 => ?_⟩
  · have t7 : ∀ i, (W i).cell? ⟨g7, 16, none⟩ = some (.int .i64 (h : Int)) := fun i => kc_height (r7.below (hb i) r7.lt) hNl
    simp only [List.take_succ_cons, List.take_zero]
    iterate 4 (go_big_quiet_step (fail))
    go_big_quiet_step ((go_at_call 50; exact (hsz _).mono (fun e w' ⟨he, hw⟩ => ⟨he, _, hw⟩)))
    iterate 8 (go_big_quiet_step (fail))
    exact wpQuiet_nil rfl
  · simp only [List.drop_succ_cons, List.drop_zero]
    go_wp2
    go_ret
    exact ⟨rfl, rb.trans (hb6.mono rb.size)⟩
set_option maxRecDepth 20000 in
set_option maxHeartbeats 1000000 in
theorem lCheck_high (P : List Int) (pp mp sp : Option Addr) (pl pc ml mc sl sc : Nat) (w0 : World) (hPl : P.length = pl) (hpc : pl ≤ pc) (hPb : Bytes w0 pp P) (hPr : ∀ x ∈ P, 0 ≤ x ∧ x < 256) (sig : List Int) (hsl : sig.length = sl) (hsc : sl ≤ sc) (hsb : Bytes w0 sp sig) (hsr : ∀ x ∈ sig, 0 ≤ x ∧ x < 256) (h : Nat) (hk : keyOk P) (hh : num4 P 0 = (h : Int)) (hne : sl = 4300 + 32 * h) (hx : num4 sig 4296 ≠ (h : Int)) :
    Calls Tryd.prog 27 #[.slice pp pl pc, .slice mp ml mc, .slice sp sl sc] w0 fun e w' => e = .returned (.int .i64 12) ∧ Below w0.heap.size w0 w' := by
  have hko := fun wx hb => keyOf_ok P pp pl pc wx hPl hpc hb hPr hk
  obtain ⟨hP56, g1, g2, g3⟩ := hk
  have hNl : ((P.drop 8).take 16).length = 16 := by simp; omega
  have hTl : (cutL P 24).length = 32 := by unfold cutL; simp; omega
  have h1 : 1 ≤ h := by omega
  have h5 : h ≤ 5 := by omega
  rw [hh] at hko
  clear hh g1 g2 g3
  have hsz := fun wx => sigSize_any h wx (by omega)
  generalize (P.drop 8).take 16 = NM at *
  generalize cutL P 24 = TOP at *
  have z1 := zkey
  have hn96 : ∀ wx, Bytes wx sp sig → Calls Tryd.prog 53 #[.slice sp sl sc, .int .i64 4296] wx fun e w' => e = .returned (.int .u32 (num4 sig 4296)) ∧ Below wx.heap.size wx w' := fun wx hb => numberAt_any sig sp sl sc 4296 wx hsl hsc (by omega) hb hsr
  have hw32 : IntKind.wrap .u32 (h : Int) = (h : Int) := by rw [IntKind.wrap_u32]; omega
  have hneb : ((sl : Int) != 4300 + (h : Int) * 32) = false := by simp; omega
  clear hne
  generalize num4 sig 4296 = x96 at *
  have hxb : (x96 != (h : Int)) = true := by simpa using hx
  go_enter Tryd.func27, Tryd.ntmps27
  go_upto_region 2 with (first | (go_at_call 52; (with_reducible refine Calls.mono (hko _ hPb) ?_); rintro e w2 ⟨rfl, hb2⟩) | (refine store_row0 80 (.tmp 7) (.tmp 16) (by rfl) (by rfl) (by rfl) w2.heap.size (kc NM (h : Int) TOP) (by rfl) (by rfl) 80 kz (Row.new w2 80 _) (key_info hNl hTl) (by rw [kc_size hNl hTl]; rfl) (kc_one _ _ _) ?_))
  have r7 : Row ((w2.alloc (.cells kz 80)).setRow w2.heap.size (kc NM (h : Int) TOP)) w2.heap.size 80 (kc NM (h : Int) TOP) := (Row.new w2 80 _).setRow _
  have rb : Below w0.heap.size w0 ((w2.alloc (.cells kz 80)).setRow w2.heap.size (kc NM (h : Int) TOP)) := below_setRow (hb2.alloc hb2.size _) hb2.size _
  obtain ⟨g7, hg7⟩ : ∃ g7, g7 = w2.heap.size := ⟨_, rfl⟩
  have hg7b : w0.heap.size ≤ g7 := by have := hb2.size; omega
  change Code.wp _ _ _ _ ((w2.alloc (.cells kz 80)).setRow w2.heap.size (kc NM (h : Int) TOP))
  rw [← hg7] at r7 rb ⊢
  generalize (w2.alloc (.cells kz 80)).setRow g7 (kc NM (h : Int) TOP) = w3 at r7 rb ⊢
  clear hg7 hb2 hko
  go_upto_region 4 with fail
  refine region_tail 13 (by kernel_rfl) (by kernel_rfl) (by kernel_rfl) ?_
  apply Exists.intro
  refine ⟨fun ι _ W hb hc => ?_, fun w6 hb6 => ?_⟩
  · have t7 : ∀ i, (W i).cell? ⟨g7, 16, none⟩ = some (.int .i64 (h : Int)) := fun i => kc_height (r7.below (hb i) r7.lt) hNl
    simp only [List.take_succ_cons, List.take_zero]
    iterate 4 (go_big_quiet_step (fail))
    go_big_quiet_step ((go_at_call 50; exact (hsz _).mono (fun e w' ⟨he, hw⟩ => ⟨he, _, hw⟩)))
    iterate 3 (go_big_quiet_step (fail))
    go_big_quiet_step ((go_at_call 53; exact (hn96 _ ((hsb.below rb).below (hb _))).mono (fun e w' ⟨he, hw⟩ => ⟨he, hc _ _ hw⟩)))
    iterate 4 (go_big_quiet_step (fail))
    exact wpQuiet_nil rfl
  · simp only [List.drop_succ_cons, List.drop_zero]
    go_wp2
    go_ret
    exact ⟨rfl, rb.trans (hb6.mono rb.size)⟩
end

section
open Go Go.RowKit

set_option maxRecDepth 20000 in
set_option maxHeartbeats 1000000 in
theorem lCheck_num (P : List Int) (pp mp sp : Option Addr) (pl pc ml mc sl sc : Nat) (w0 : World) (hPl : P.length = pl) (hpc : pl ≤ pc) (hPb : Bytes w0 pp P) (hPr : ∀ x ∈ P, 0 ≤ x ∧ x < 256) (sig : List Int) (hsl : sig.length = sl) (hsc : sl ≤ sc) (hsb : Bytes w0 sp sig) (hsr : ∀ x ∈ sig, 0 ≤ x ∧ x < 256) (h : Nat) (hk : keyOk P) (hh : num4 P 0 = (h : Int)) (hne : sl = 4300 + 32 * h) (hx : num4 sig 4296 = (h : Int)) (hq : num4 sig 0 ≥ ((2 ^ h : Nat) : Int)) :
    Calls Tryd.prog 27 #[.slice pp pl pc, .slice mp ml mc, .slice sp sl sc] w0 fun e w' => e = .returned (.int .i64 12) ∧ Below w0.heap.size w0 w' := by
  have hko := fun wx hb => keyOf_ok P pp pl pc wx hPl hpc hb hPr hk
  obtain ⟨hP56, g1, g2, g3⟩ := hk
  have hNl : ((P.drop 8).take 16).length = 16 := by simp; omega
  have hTl : (cutL P 24).length = 32 := by unfold cutL; simp; omega
  have h1 : 1 ≤ h := by omega
  have h5 : h ≤ 5 := by omega
  rw [hh] at hko
  clear hh g1 g2 g3
  have hsz := fun wx => sigSize_any h wx (by omega)
  generalize (P.drop 8).take 16 = NM at *
  generalize cutL P 24 = TOP at *
  have z1 := zkey
  have hn0 : ∀ wx, Bytes wx sp sig → Calls Tryd.prog 53 #[.slice sp sl sc, .int .i64 0] wx fun e w' => e = .returned (.int .u32 (num4 sig 0)) ∧ Below wx.heap.size wx w' := fun wx hb => numberAt_any sig sp sl sc 0 wx hsl hsc (by omega) hb hsr
  have hr0 := num4_range (k := 0) hsr (by omega)
  have hlv := fun wx => leaves_any h wx h1 h5
  have hn32 : 2 ≤ 2 ^ h ∧ 2 ^ h ≤ 32 := by
    rcases (by omega : h = 1 ∨ h = 2 ∨ h = 3 ∨ h = 4 ∨ h = 5) with rfl | rfl | rfl | rfl | rfl <;> decide
  have hn96 : ∀ wx, Bytes wx sp sig → Calls Tryd.prog 53 #[.slice sp sl sc, .int .i64 4296] wx fun e w' => e = .returned (.int .u32 (num4 sig 4296)) ∧ Below wx.heap.size wx w' := fun wx hb => numberAt_any sig sp sl sc 4296 wx hsl hsc (by omega) hb hsr
  have hw32 : IntKind.wrap .u32 (h : Int) = (h : Int) := by rw [IntKind.wrap_u32]; omega
  have hneb : ((sl : Int) != 4300 + (h : Int) * 32) = false := by simp; omega
  rw [hx] at hn96
  have hxb : ((h : Int) != (h : Int)) = false := by simp
  clear hx
  clear hne
  generalize num4 sig 0 = x0 at *
  generalize 2 ^ h = n at *
  have hwn : IntKind.wrap .u32 (n : Int) = (n : Int) := by rw [IntKind.wrap_u32]; omega
  have hgt : decide (x0 ≥ (n : Int)) = true := decide_eq_true hq
  clear hq
  go_enter Tryd.func27, Tryd.ntmps27
  go_upto_region 2 with (first | (go_at_call 52; (with_reducible refine Calls.mono (hko _ hPb) ?_); rintro e w2 ⟨rfl, hb2⟩) | (refine store_row0 80 (.tmp 7) (.tmp 16) (by rfl) (by rfl) (by rfl) w2.heap.size (kc NM (h : Int) TOP) (by rfl) (by rfl) 80 kz (Row.new w2 80 _) (key_info hNl hTl) (by rw [kc_size hNl hTl]; rfl) (kc_one _ _ _) ?_))
  have r7 : Row ((w2.alloc (.cells kz 80)).setRow w2.heap.size (kc NM (h : Int) TOP)) w2.heap.size 80 (kc NM (h : Int) TOP) := (Row.new w2 80 _).setRow _
  have rb : Below w0.heap.size w0 ((w2.alloc (.cells kz 80)).setRow w2.heap.size (kc NM (h : Int) TOP)) := below_setRow (hb2.alloc hb2.size _) hb2.size _
  obtain ⟨g7, hg7⟩ : ∃ g7, g7 = w2.heap.size := ⟨_, rfl⟩
  have hg7b : w0.heap.size ≤ g7 := by have := hb2.size; omega
  change Code.wp _ _ _ _ ((w2.alloc (.cells kz 80)).setRow w2.heap.size (kc NM (h : Int) TOP))
  rw [← hg7] at r7 rb ⊢
  generalize (w2.alloc (.cells kz 80)).setRow g7 (kc NM (h : Int) TOP) = w3 at r7 rb ⊢
  clear hg7 hb2 hko
  go_upto_region 4 with fail
  refine region_tail 13 (by kernel_rfl) (by kernel_rfl) (by kernel_rfl) ?_
  apply Exists.intro
  refine ⟨fun ι _ W hb hc => ?_, fun w6 hb6 => ?_⟩
  · have t7 : ∀ i, (W i).cell? ⟨g7, 16, none⟩ = some (.int .i64 (h : Int)) := fun i => kc_height (r7.below (hb i) r7.lt) hNl
    simp only [List.take_succ_cons, List.take_zero]
    iterate 4 (go_big_quiet_step (fail))
    go_big_quiet_step ((go_at_call 50; exact (hsz _).mono (fun e w' ⟨he, hw⟩ => ⟨he, _, hw⟩)))
    iterate 3 (go_big_quiet_step (fail))
    go_big_quiet_step ((go_at_call 53; exact (hn96 _ ((hsb.below rb).below (hb _))).mono (fun e w' ⟨he, hw⟩ => ⟨he, hc _ _ hw⟩)))
    iterate 4 (go_big_quiet_step (fail))
    exact wpQuiet_nil rfl
  · simp only [List.drop_succ_cons, List.drop_zero]
    have y7 := r7.below hb6 r7.lt
    have yb := rb.trans (hb6.mono rb.size)
    have k6 := kc_height y7 hNl
    clear r7 rb hb6
    go_wp2_with (first | (go_at_call 53; (with_reducible refine Calls.mono (hn0 _ (hsb.below yb)) ?_); rintro e w8 ⟨rfl, hb8⟩; have y8 := y7.below hb8 y7.lt; have yb8 := yb.trans (hb8.mono yb.size); have k8 := kc_height y8 hNl; clear k6) | (go_at_call 49; (with_reducible refine Calls.mono (hlv _) ?_); rintro e w9 ⟨rfl, hw⟩; obtain rfl := hw.symm; clear hw))
    go_ret
    exact ⟨rfl, yb8⟩
end

section
open Go Go.RowKit

theorem exec_load_name {o : Oper} {a : Act} {w : World} (x : Operand) (ho : o.op = .load 22 x) (g : Nat) (hx : a.eval x = .pointer (some ⟨g, 0, none⟩)) (nm top : List Int) (h : Int) (hr : Row w g 80 (kc nm h top)) (hn : nm.length = 16) :
    (execOp a.eval o).run Tryd.prog w = .ok (.value (.agg (v8 nm))) w := by
  have hrun := run_loadVar_mid (P := Tryd.prog) w g 0 22 (v8 nm).toList _ (range_name hr) Tryd.underlying22 rfl (by rw [Array.length_toList]; exact name_info hn)
  rw [show (v8 nm).toList.toArray = v8 nm by simp] at hrun
  unfold execOp
  simp only [ho, hx, Instr.loadAt, Instr.sureAddr, Sem.run_bind, Sem.run_pure, Result.andThen_ok, hrun]

set_option maxRecDepth 20000 in
set_option maxHeartbeats 1000000 in
theorem lCheck_back (P : List Int) (pp mp sp : Option Addr) (pl pc ml mc sl sc : Nat) (w0 : World) (hPl : P.length = pl) (hpc : pl ≤ pc) (hPb : Bytes w0 pp P) (hPr : ∀ x ∈ P, 0 ≤ x ∧ x < 256) (sig : List Int) (hsl : sig.length = sl) (hsc : sl ≤ sc) (hsb : Bytes w0 sp sig) (hsr : ∀ x ∈ sig, 0 ≤ x ∧ x < 256) (h : Nat) (hk : keyOk P) (hh : num4 P 0 = (h : Int)) (hL : Laid w0) (hne : sl = 4300 + 32 * h) (hx : num4 sig 4296 = (h : Int)) (q : Nat) (hqq : num4 sig 0 = (q : Int)) (hq : q < 2 ^ h) (hty : ((sig.drop 4).take 4292).take 4 ≠ n4 2) :
    Calls Tryd.prog 27 #[.slice pp pl pc, .slice mp ml mc, .slice sp sl sc] w0 fun e w' => e = .returned (.int .i64 12) ∧ Below w0.heap.size w0 w' := by
  have hko := fun wx hb => keyOf_ok P pp pl pc wx hPl hpc hb hPr hk
  obtain ⟨hP56, g1, g2, g3⟩ := hk
  have hNl : ((P.drop 8).take 16).length = 16 := by simp; omega
  have hTl : (cutL P 24).length = 32 := by unfold cutL; simp; omega
  have h1 : 1 ≤ h := by omega
  have h5 : h ≤ 5 := by omega
  rw [hh] at hko
  clear hh g1 g2 g3
  have hsz := fun wx => sigSize_any h wx (by omega)
  generalize (P.drop 8).take 16 = NM at *
  generalize cutL P 24 = TOP at *
  have z1 := zkey
  have hsl4 : ((sig.drop 4).take 4292).length = 4292 := by simp; omega
  have hsc4 : ¬ sc = 4 := by omega
  have hsc96 : (4296 : Int) ≤ (sc : Int) := by omega
  have hsc43 : (4300 : Int) ≤ (sc : Int) := by omega
  obtain ⟨b8, o8, hsp, _⟩ := hsb (by omega)
  have hn0 : ∀ wx, Bytes wx sp sig → Calls Tryd.prog 53 #[.slice sp sl sc, .int .i64 0] wx fun e w' => e = .returned (.int .u32 (num4 sig 0)) ∧ Below wx.heap.size wx w' := fun wx hb => numberAt_any sig sp sl sc 0 wx hsl hsc (by omega) hb hsr
  have hr0 := num4_range (k := 0) hsr (by omega)
  have hlv := fun wx => leaves_any h wx h1 h5
  have hn32 : 2 ≤ 2 ^ h ∧ 2 ^ h ≤ 32 := by
    rcases (by omega : h = 1 ∨ h = 2 ∨ h = 3 ∨ h = 4 ∨ h = 5) with rfl | rfl | rfl | rfl | rfl <;> decide
  have hn96 : ∀ wx, Bytes wx sp sig → Calls Tryd.prog 53 #[.slice sp sl sc, .int .i64 4296] wx fun e w' => e = .returned (.int .u32 (num4 sig 4296)) ∧ Below wx.heap.size wx w' := fun wx hb => numberAt_any sig sp sl sc 4296 wx hsl hsc (by omega) hb hsr
  have hw32 : IntKind.wrap .u32 (h : Int) = (h : Int) := by rw [IntKind.wrap_u32]; omega
  have hneb : ((sl : Int) != 4300 + (h : Int) * 32) = false := by simp; omega
  rw [hx] at hn96
  have hxb : ((h : Int) != (h : Int)) = false := by simp
  clear hx
  subst hsp
  have hbk : ∀ wx, Laid wx → Below w0.heap.size w0 wx → Calls Tryd.prog 18 #[.agg (v8 NM), .int .i64 (q : Int), .slice mp ml mc, .slice (some ⟨b8, o8 + 4, none⟩) 4292 (sc - 4)] wx fun e w' => e = .returned (.tuple #[.agg (v8 (zer 32)), .int .i64 12]) ∧ Below wx.heap.size wx w' := fun wx _ hb =>
    Back_type NM ((sig.drop 4).take 4292) q mp (some ⟨b8, o8 + 4, none⟩) ml mc 4292 (sc - 4) wx hsl4 ((Bytes.drop (hsb.below hb) 4).take 4292) rfl hty
  have hXl : (zer 32).length = 32 := zer_len 32
  have hLL := hL
  rw [hqq] at hn0 hr0
  clear hqq
  generalize 2 ^ h = n at *
  have hwn : IntKind.wrap .u32 (n : Int) = (n : Int) := by rw [IntKind.wrap_u32]; omega
  have hgt : decide ((q : Int) ≥ (n : Int)) = false := decide_eq_false (by omega)
  clear hne
  go_enter Tryd.func27, Tryd.ntmps27
  go_upto_region 2 with (first | (go_at_call 52; (with_reducible refine Calls.mono (hko _ hPb) ?_); rintro e w2 ⟨rfl, hb2⟩) | (refine store_row0 80 (.tmp 7) (.tmp 16) (by rfl) (by rfl) (by rfl) w2.heap.size (kc NM (h : Int) TOP) (by rfl) (by rfl) 80 kz (Row.new w2 80 _) (key_info hNl hTl) (by rw [kc_size hNl hTl]; rfl) (kc_one _ _ _) ?_))
  have r7 : Row ((w2.alloc (.cells kz 80)).setRow w2.heap.size (kc NM (h : Int) TOP)) w2.heap.size 80 (kc NM (h : Int) TOP) := (Row.new w2 80 _).setRow _
  have rb : Below w0.heap.size w0 ((w2.alloc (.cells kz 80)).setRow w2.heap.size (kc NM (h : Int) TOP)) := below_setRow (hb2.alloc hb2.size _) hb2.size _
  obtain ⟨g7, hg7⟩ : ∃ g7, g7 = w2.heap.size := ⟨_, rfl⟩
  have hg7b : w0.heap.size ≤ g7 := by have := hb2.size; omega
  change Code.wp _ _ _ _ ((w2.alloc (.cells kz 80)).setRow w2.heap.size (kc NM (h : Int) TOP))
  rw [← hg7] at r7 rb ⊢
  generalize (w2.alloc (.cells kz 80)).setRow g7 (kc NM (h : Int) TOP) = w3 at r7 rb ⊢
  clear hg7 hb2 hko
  go_upto_region 4 with fail
  refine region_tail 13 (by kernel_rfl) (by kernel_rfl) (by kernel_rfl) ?_
  apply Exists.intro
  refine ⟨fun ι _ W hb hc => ?_, fun w6 hb6 => ?_⟩
  · have t7 : ∀ i, (W i).cell? ⟨g7, 16, none⟩ = some (.int .i64 (h : Int)) := fun i => kc_height (r7.below (hb i) r7.lt) hNl
    simp only [List.take_succ_cons, List.take_zero]
    iterate 4 (go_big_quiet_step (fail))
    go_big_quiet_step ((go_at_call 50; exact (hsz _).mono (fun e w' ⟨he, hw⟩ => ⟨he, _, hw⟩)))
    iterate 3 (go_big_quiet_step (fail))
    go_big_quiet_step ((go_at_call 53; exact (hn96 _ ((hsb.below rb).below (hb _))).mono (fun e w' ⟨he, hw⟩ => ⟨he, hc _ _ hw⟩)))
    iterate 4 (go_big_quiet_step (fail))
    exact wpQuiet_nil rfl
  · simp only [List.drop_succ_cons, List.drop_zero]
    have y7 := r7.below hb6 r7.lt
    have yb := rb.trans (hb6.mono rb.size)
    have k6 := kc_height y7 hNl
    clear r7 rb hb6
    go_upto_region 10 with (first | (go_at_call 53; (with_reducible refine Calls.mono (hn0 _ (hsb.below yb)) ?_); rintro e w8 ⟨rfl, hb8⟩; have y8 := y7.below hb8 y7.lt; have yb8 := yb.trans (hb8.mono yb.size); have k8 := kc_height y8 hNl; clear k6) | (go_at_call 49; (with_reducible refine Calls.mono (hlv _) ?_); rintro e w9 ⟨rfl, hw⟩; obtain rfl := hw.symm; clear hw))
    have z7 := y8
    have zb := yb8
    clear y7 y8 yb yb8 k8
    have hz7 := z7.lt
    have hzb := zb.size
    obtain ⟨B, hB⟩ : ∃ B, B = w8.heap.size := ⟨_, rfl⟩
    have hsB : ∀ {w : World}, Below B w8 w → B ≤ w.heap.size := fun h => by have := h.size; omega
    refine region_invFA  (by kernel_rfl) (by kernel_rfl) (fun a0 listed a w => ∃ s11 s12 s44 s45 s46 s47 s48 s49 s50 s51 s52 s53, a = (Act.put (Act.put (Act.put (Act.put (Act.put (Act.put (Act.put (Act.put (Act.put (Act.put (Act.put (Act.put a0 (some 11) s11) (some 12) s12) (some 44) s44) (some 45) s45) (some 46) s46) (some 47) s47) (some 48) s48) (some 49) s49) (some 50) s50) (some 51) s51) (some 52) s52) (some 53) s53) ∧ Below B w8 w ∧ (listed.getD 0 false = true → s45 = .pointer (some ⟨g7, 0, none⟩)) ∧ (listed.getD 1 false = true → s46 = .agg (v8 NM)) ∧ (listed.getD 2 false = true → s47 = .int .i64 (q : Int)) ∧ (listed.getD 3 false = true → s48 = .slice mp ml mc) ∧ (listed.getD 4 false = true → s49 = .slice (some ⟨b8, o8, none⟩) sl sc) ∧ (listed.getD 5 false = true → s50 = .slice (some ⟨b8, o8 + 4, none⟩) 4292 (sc - 4)) ∧ (listed.getD 6 false = true → s51 = .tuple #[.agg (v8 (zer 32)), .int .i64 12]) ∧ (listed.getD 7 false = true → s44 = .tuple #[.agg (v8 (zer 32)), .int .i64 12]) ∧ (listed.getD 8 false = true → s52 = .agg (v8 (zer 32))) ∧ (listed.getD 9 false = true → s53 = .int .i64 12) ∧ (listed.getD 10 false = true → listed.getD 11 false = false → VarS w B s11 24 (zer 32)) ∧ (listed.getD 11 false = true → VarS w B s11 24 (zer 32)) ∧ (listed.getD 12 false = true → s12 = .int .i64 12)) ?_ ?_ ?_
    all_goals simp only [Act.put, List.setIfInBounds_toArray, List.set_cons_succ, List.set_cons_zero]
    · exact ⟨_, _, _, _, _, _, _, _, _, _, _, _, rfl, (Below.refl B _).drew, (fun h => absurd h (by rw [getD_replicate_false]; decide)), (fun h => absurd h (by rw [getD_replicate_false]; decide)), (fun h => absurd h (by rw [getD_replicate_false]; decide)), (fun h => absurd h (by rw [getD_replicate_false]; decide)), (fun h => absurd h (by rw [getD_replicate_false]; decide)), (fun h => absurd h (by rw [getD_replicate_false]; decide)), (fun h => absurd h (by rw [getD_replicate_false]; decide)), (fun h => absurd h (by rw [getD_replicate_false]; decide)), (fun h => absurd h (by rw [getD_replicate_false]; decide)), (fun h => absurd h (by rw [getD_replicate_false]; decide)), (fun h => absurd h (by rw [getD_replicate_false]; decide)), (fun h => absurd h (by rw [getD_replicate_false]; decide)), (fun h => absurd h (by rw [getD_replicate_false]; decide))⟩
    · intro listed a w i o hls hJ hin ho hi hall hcl
      obtain ⟨s11, s12, s44, s45, s46, s47, s48, s49, s50, s51, s52, s53, rfl, hbW, c0, c1, c2, c3, c4, c5, c6, c7, c8, c9, c10, c11, c12⟩ := hJ
      replace hin : i < 13 := hin
      rcases (by omega : i = 0 ∨ i = 1 ∨ i = 2 ∨ i = 3 ∨ i = 4 ∨ i = 5 ∨ i = 6 ∨ i = 7 ∨ i = 8 ∨ i = 9 ∨ i = 10 ∨ i = 11 ∨ i = 12) with rfl | rfl | rfl | rfl | rfl | rfl | rfl | rfl | rfl | rfl | rfl | rfl | rfl
      · obtain rfl := Option.some.inj ho
        have hsz : 0 < listed.size := by rw [hls]; decide
        have hbw := hbW
        refine inv_val (w' := w) (.pointer (some ⟨g7, 0, none⟩)) rfl rfl (by kernel_rfl) ?_
        exact ⟨s11, s12, s44, (.pointer (some ⟨g7, 0, none⟩)), s46, s47, s48, s49, s50, s51, s52, s53, rfl, hbw, (fun _ => rfl), (fun h => c1 (bit_ne h (by decide))), (fun h => c2 (bit_ne h (by decide))), (fun h => c3 (bit_ne h (by decide))), (fun h => c4 (bit_ne h (by decide))), (fun h => c5 (bit_ne h (by decide))), (fun h => c6 (bit_ne h (by decide))), (fun h => c7 (bit_ne h (by decide))), (fun h => c8 (bit_ne h (by decide))), (fun h => c9 (bit_ne h (by decide))), (fun h h2 => c10 (bit_ne h (by decide)) (bit_ne h2 (by decide))), (fun h => c11 (bit_ne h (by decide))), (fun h => c12 (bit_ne h (by decide)))⟩
      · obtain rfl := Option.some.inj ho
        have hsz : 1 < listed.size := by rw [hls]; decide
        have hdep0 : listed.getD 0 false = true := hall ⟨0, .data⟩ (by simp) (by rfl)
        obtain rfl := c0 hdep0
        have hbw := hbW
        refine inv_val (w' := w) (.agg (v8 NM)) rfl rfl (exec_load_name (.tmp 45) rfl g7 rfl NM TOP h (z7.below hbW (by omega)) hNl) ?_
        exact ⟨s11, s12, s44, (.pointer (some ⟨g7, 0, none⟩)), (.agg (v8 NM)), s47, s48, s49, s50, s51, s52, s53, rfl, hbw, (fun h => c0 (bit_ne h (by decide))), (fun _ => rfl), (fun h => c2 (bit_ne h (by decide))), (fun h => c3 (bit_ne h (by decide))), (fun h => c4 (bit_ne h (by decide))), (fun h => c5 (bit_ne h (by decide))), (fun h => c6 (bit_ne h (by decide))), (fun h => c7 (bit_ne h (by decide))), (fun h => c8 (bit_ne h (by decide))), (fun h => c9 (bit_ne h (by decide))), (fun h h2 => c10 (bit_ne h (by decide)) (bit_ne h2 (by decide))), (fun h => c11 (bit_ne h (by decide))), (fun h => c12 (bit_ne h (by decide)))⟩
      · obtain rfl := Option.some.inj ho
        have hsz : 2 < listed.size := by rw [hls]; decide
        have hbw := hbW
        refine inv_val (w' := w) (.int .i64 (q : Int)) rfl rfl rfl ?_
        exact ⟨s11, s12, s44, s45, s46, (.int .i64 (q : Int)), s48, s49, s50, s51, s52, s53, rfl, hbw, (fun h => c0 (bit_ne h (by decide))), (fun h => c1 (bit_ne h (by decide))), (fun _ => rfl), (fun h => c3 (bit_ne h (by decide))), (fun h => c4 (bit_ne h (by decide))), (fun h => c5 (bit_ne h (by decide))), (fun h => c6 (bit_ne h (by decide))), (fun h => c7 (bit_ne h (by decide))), (fun h => c8 (bit_ne h (by decide))), (fun h => c9 (bit_ne h (by decide))), (fun h h2 => c10 (bit_ne h (by decide)) (bit_ne h2 (by decide))), (fun h => c11 (bit_ne h (by decide))), (fun h => c12 (bit_ne h (by decide)))⟩
      · obtain rfl := Option.some.inj ho
        have hsz : 3 < listed.size := by rw [hls]; decide
        have hbw := hbW
        refine inv_val (w' := w) (.slice mp ml mc) rfl rfl rfl ?_
        exact ⟨s11, s12, s44, s45, s46, s47, (.slice mp ml mc), s49, s50, s51, s52, s53, rfl, hbw, (fun h => c0 (bit_ne h (by decide))), (fun h => c1 (bit_ne h (by decide))), (fun h => c2 (bit_ne h (by decide))), (fun _ => rfl), (fun h => c4 (bit_ne h (by decide))), (fun h => c5 (bit_ne h (by decide))), (fun h => c6 (bit_ne h (by decide))), (fun h => c7 (bit_ne h (by decide))), (fun h => c8 (bit_ne h (by decide))), (fun h => c9 (bit_ne h (by decide))), (fun h h2 => c10 (bit_ne h (by decide)) (bit_ne h2 (by decide))), (fun h => c11 (bit_ne h (by decide))), (fun h => c12 (bit_ne h (by decide)))⟩
      · obtain rfl := Option.some.inj ho
        have hsz : 4 < listed.size := by rw [hls]; decide
        have hbw := hbW
        refine inv_val (w' := w) (.slice (some ⟨b8, o8, none⟩) sl sc) rfl rfl rfl ?_
        exact ⟨s11, s12, s44, s45, s46, s47, s48, (.slice (some ⟨b8, o8, none⟩) sl sc), s50, s51, s52, s53, rfl, hbw, (fun h => c0 (bit_ne h (by decide))), (fun h => c1 (bit_ne h (by decide))), (fun h => c2 (bit_ne h (by decide))), (fun h => c3 (bit_ne h (by decide))), (fun _ => rfl), (fun h => c5 (bit_ne h (by decide))), (fun h => c6 (bit_ne h (by decide))), (fun h => c7 (bit_ne h (by decide))), (fun h => c8 (bit_ne h (by decide))), (fun h => c9 (bit_ne h (by decide))), (fun h h2 => c10 (bit_ne h (by decide)) (bit_ne h2 (by decide))), (fun h => c11 (bit_ne h (by decide))), (fun h => c12 (bit_ne h (by decide)))⟩
      · obtain rfl := Option.some.inj ho
        have hsz : 5 < listed.size := by rw [hls]; decide
        have hdep4 : listed.getD 4 false = true := hall ⟨4, .data⟩ (by simp) (by rfl)
        obtain rfl := c4 hdep4
        have hbw := hbW
        refine inv_val (w' := w) (.slice (some ⟨b8, o8 + 4, none⟩) 4292 (sc - 4)) rfl rfl (by go_simp) ?_
        exact ⟨s11, s12, s44, s45, s46, s47, s48, (.slice (some ⟨b8, o8, none⟩) sl sc), (.slice (some ⟨b8, o8 + 4, none⟩) 4292 (sc - 4)), s51, s52, s53, rfl, hbw, (fun h => c0 (bit_ne h (by decide))), (fun h => c1 (bit_ne h (by decide))), (fun h => c2 (bit_ne h (by decide))), (fun h => c3 (bit_ne h (by decide))), (fun h => c4 (bit_ne h (by decide))), (fun _ => rfl), (fun h => c6 (bit_ne h (by decide))), (fun h => c7 (bit_ne h (by decide))), (fun h => c8 (bit_ne h (by decide))), (fun h => c9 (bit_ne h (by decide))), (fun h h2 => c10 (bit_ne h (by decide)) (bit_ne h2 (by decide))), (fun h => c11 (bit_ne h (by decide))), (fun h => c12 (bit_ne h (by decide)))⟩
      · obtain rfl := Option.some.inj ho
        have hsz : 6 < listed.size := by rw [hls]; decide
        have hdep1 : listed.getD 1 false = true := hall ⟨1, .data⟩ (by simp) (by rfl)
        obtain rfl := c1 hdep1
        have hdep2 : listed.getD 2 false = true := hall ⟨2, .data⟩ (by simp) (by rfl)
        obtain rfl := c2 hdep2
        have hdep3 : listed.getD 3 false = true := hall ⟨3, .data⟩ (by simp) (by rfl)
        obtain rfl := c3 hdep3
        have hdep5 : listed.getD 5 false = true := hall ⟨5, .data⟩ (by simp) (by rfl)
        obtain rfl := c5 hdep5
        refine inv_call 18 #[.agg (v8 NM), .int .i64 (q : Int), .slice mp ml mc, .slice (some ⟨b8, o8 + 4, none⟩) 4292 (sc - 4)] _ rfl rfl (by kernel_rfl) (hbk w (hL.below (zb.trans (hbW.mono (by omega)))) (zb.trans (hbW.mono (by omega)))) ?_
        rintro e w' ⟨rfl, hb⟩
        have hbw : Below B w8 w' := hbW.trans (hb.mono (hsB hbW))
        refine ⟨_, rfl, ?_⟩
        exact ⟨s11, s12, s44, s45, (.agg (v8 NM)), (.int .i64 (q : Int)), (.slice mp ml mc), s49, (.slice (some ⟨b8, o8 + 4, none⟩) 4292 (sc - 4)), (.tuple #[.agg (v8 (zer 32)), .int .i64 12]), s52, s53, rfl, hbw, (fun h => c0 (bit_ne h (by decide))), (fun h => c1 (bit_ne h (by decide))), (fun h => c2 (bit_ne h (by decide))), (fun h => c3 (bit_ne h (by decide))), (fun h => c4 (bit_ne h (by decide))), (fun h => c5 (bit_ne h (by decide))), (fun _ => rfl), (fun h => c7 (bit_ne h (by decide))), (fun h => c8 (bit_ne h (by decide))), (fun h => c9 (bit_ne h (by decide))), (fun h h2 => (c10 (bit_ne h (by decide)) (bit_ne h2 (by decide))).below hb), (fun h => (c11 (bit_ne h (by decide))).below hb), (fun h => c12 (bit_ne h (by decide)))⟩
      · obtain rfl := Option.some.inj ho
        have hsz : 7 < listed.size := by rw [hls]; decide
        have hdep6 : listed.getD 6 false = true := hall ⟨6, .data⟩ (by simp) (by rfl)
        obtain rfl := c6 hdep6
        have hbw := hbW
        refine inv_val (w' := w) (.tuple #[.agg (v8 (zer 32)), .int .i64 12]) rfl rfl rfl ?_
        exact ⟨s11, s12, (.tuple #[.agg (v8 (zer 32)), .int .i64 12]), s45, s46, s47, s48, s49, s50, (.tuple #[.agg (v8 (zer 32)), .int .i64 12]), s52, s53, rfl, hbw, (fun h => c0 (bit_ne h (by decide))), (fun h => c1 (bit_ne h (by decide))), (fun h => c2 (bit_ne h (by decide))), (fun h => c3 (bit_ne h (by decide))), (fun h => c4 (bit_ne h (by decide))), (fun h => c5 (bit_ne h (by decide))), (fun h => c6 (bit_ne h (by decide))), (fun _ => rfl), (fun h => c8 (bit_ne h (by decide))), (fun h => c9 (bit_ne h (by decide))), (fun h h2 => c10 (bit_ne h (by decide)) (bit_ne h2 (by decide))), (fun h => c11 (bit_ne h (by decide))), (fun h => c12 (bit_ne h (by decide)))⟩
      · obtain rfl := Option.some.inj ho
        have hsz : 8 < listed.size := by rw [hls]; decide
        have hdep7 : listed.getD 7 false = true := hall ⟨7, .data⟩ (by simp) (by rfl)
        obtain rfl := c7 hdep7
        have hbw := hbW
        refine inv_val (w' := w) (.agg (v8 (zer 32))) rfl rfl (by kernel_rfl) ?_
        exact ⟨s11, s12, (.tuple #[.agg (v8 (zer 32)), .int .i64 12]), s45, s46, s47, s48, s49, s50, s51, (.agg (v8 (zer 32))), s53, rfl, hbw, (fun h => c0 (bit_ne h (by decide))), (fun h => c1 (bit_ne h (by decide))), (fun h => c2 (bit_ne h (by decide))), (fun h => c3 (bit_ne h (by decide))), (fun h => c4 (bit_ne h (by decide))), (fun h => c5 (bit_ne h (by decide))), (fun h => c6 (bit_ne h (by decide))), (fun h => c7 (bit_ne h (by decide))), (fun _ => rfl), (fun h => c9 (bit_ne h (by decide))), (fun h h2 => c10 (bit_ne h (by decide)) (bit_ne h2 (by decide))), (fun h => c11 (bit_ne h (by decide))), (fun h => c12 (bit_ne h (by decide)))⟩
      · obtain rfl := Option.some.inj ho
        have hsz : 9 < listed.size := by rw [hls]; decide
        have hdep7 : listed.getD 7 false = true := hall ⟨7, .data⟩ (by simp) (by rfl)
        obtain rfl := c7 hdep7
        have hbw := hbW
        refine inv_val (w' := w) (.int .i64 12) rfl rfl (by kernel_rfl) ?_
        exact ⟨s11, s12, (.tuple #[.agg (v8 (zer 32)), .int .i64 12]), s45, s46, s47, s48, s49, s50, s51, s52, (.int .i64 12), rfl, hbw, (fun h => c0 (bit_ne h (by decide))), (fun h => c1 (bit_ne h (by decide))), (fun h => c2 (bit_ne h (by decide))), (fun h => c3 (bit_ne h (by decide))), (fun h => c4 (bit_ne h (by decide))), (fun h => c5 (bit_ne h (by decide))), (fun h => c6 (bit_ne h (by decide))), (fun h => c7 (bit_ne h (by decide))), (fun h => c8 (bit_ne h (by decide))), (fun _ => rfl), (fun h h2 => c10 (bit_ne h (by decide)) (bit_ne h2 (by decide))), (fun h => c11 (bit_ne h (by decide))), (fun h => c12 (bit_ne h (by decide)))⟩
      · obtain rfl := Option.some.inj ho
        have hsz : 10 < listed.size := by rw [hls]; decide
        have hbw : Below B w8 (w.alloc (.cells (v8 (zer 32)) 24)) := hbW.alloc (hsB hbW) _
        refine inv_val (.pointer (some ⟨w.heap.size, 0, none⟩)) (w' := w.alloc (.cells (v8 (zer 32)) 24)) rfl rfl (by kernel_rfl) ?_
        exact ⟨(.pointer (some ⟨w.heap.size, 0, none⟩)), s12, s44, s45, s46, s47, s48, s49, s50, s51, s52, s53, rfl, hbw, (fun h => c0 (bit_ne h (by decide))), (fun h => c1 (bit_ne h (by decide))), (fun h => c2 (bit_ne h (by decide))), (fun h => c3 (bit_ne h (by decide))), (fun h => c4 (bit_ne h (by decide))), (fun h => c5 (bit_ne h (by decide))), (fun h => c6 (bit_ne h (by decide))), (fun h => c7 (bit_ne h (by decide))), (fun h => c8 (bit_ne h (by decide))), (fun h => c9 (bit_ne h (by decide))), (fun _ _ => VarS.new w B (hsB hbW) _ _), (fun h => absurd (hcl 11 _ rfl (bit_ne h (by decide)) ⟨10, .data⟩ (by simp) rfl) (by rw [hi]; decide)), (fun h => c12 (bit_ne h (by decide)))⟩
      · obtain rfl := Option.some.inj ho
        have hsz : 11 < listed.size := by rw [hls]; decide
        have hdep10 : listed.getD 10 false = true := hall ⟨10, .data⟩ (by simp) (by rfl)
        have hdep8 : listed.getD 8 false = true := hall ⟨8, .data⟩ (by simp) (by rfl)
        obtain rfl := c8 hdep8
        obtain ⟨bV, rfl, rV, hbV⟩ := c10 hdep10 hi
        refine inv_store 24 (.tmp 11) (.tmp 52) rfl rfl rfl rfl bV (zer 32) rfl rfl 24 (zer 32) rV (id_info hXl) ((zer_len 32).trans hXl.symm) ?_
        have hbw : Below B w8 (w.setRow bV (v8 (zer 32))) := below_setRow hbW hbV _
        exact ⟨(.pointer (some ⟨bV, 0, none⟩)), s12, s44, s45, s46, s47, s48, s49, s50, s51, (.agg (v8 (zer 32))), s53, rfl, hbw, (fun h => c0 (bit_ne h (by decide))), (fun h => c1 (bit_ne h (by decide))), (fun h => c2 (bit_ne h (by decide))), (fun h => c3 (bit_ne h (by decide))), (fun h => c4 (bit_ne h (by decide))), (fun h => c5 (bit_ne h (by decide))), (fun h => c6 (bit_ne h (by decide))), (fun h => c7 (bit_ne h (by decide))), (fun h => c8 (bit_ne h (by decide))), (fun h => c9 (bit_ne h (by decide))), (fun _ h2 => absurd (bit_on hsz) (by rw [h2]; decide)), (fun _ => ⟨bV, rfl, rV.setRow _, hbV⟩), (fun h => c12 (bit_ne h (by decide)))⟩
      · obtain rfl := Option.some.inj ho
        have hsz : 12 < listed.size := by rw [hls]; decide
        have hdep9 : listed.getD 9 false = true := hall ⟨9, .data⟩ (by simp) (by rfl)
        obtain rfl := c9 hdep9
        have hbw := hbW
        refine inv_val (w' := w) (.int .i64 12) rfl rfl rfl ?_
        exact ⟨s11, (.int .i64 12), s44, s45, s46, s47, s48, s49, s50, s51, s52, (.int .i64 12), rfl, hbw, (fun h => c0 (bit_ne h (by decide))), (fun h => c1 (bit_ne h (by decide))), (fun h => c2 (bit_ne h (by decide))), (fun h => c3 (bit_ne h (by decide))), (fun h => c4 (bit_ne h (by decide))), (fun h => c5 (bit_ne h (by decide))), (fun h => c6 (bit_ne h (by decide))), (fun h => c7 (bit_ne h (by decide))), (fun h => c8 (bit_ne h (by decide))), (fun h => c9 (bit_ne h (by decide))), (fun h h2 => c10 (bit_ne h (by decide)) (bit_ne h2 (by decide))), (fun h => c11 (bit_ne h (by decide))), (fun _ => rfl)⟩
    · intro listed a w hall hJ
      obtain ⟨s11, s12, s44, s45, s46, s47, s48, s49, s50, s51, s52, s53, rfl, hbW, c0, c1, c2, c3, c4, c5, c6, c7, c8, c9, c10, c11, c12⟩ := hJ
      obtain rfl := c0 (hall 0 (by decide))
      obtain rfl := c1 (hall 1 (by decide))
      obtain rfl := c2 (hall 2 (by decide))
      obtain rfl := c3 (hall 3 (by decide))
      obtain rfl := c4 (hall 4 (by decide))
      obtain rfl := c5 (hall 5 (by decide))
      obtain rfl := c6 (hall 6 (by decide))
      obtain rfl := c7 (hall 7 (by decide))
      obtain rfl := c8 (hall 8 (by decide))
      obtain rfl := c9 (hall 9 (by decide))
      obtain ⟨b11, rfl, r11, hb11⟩ := c11 (hall 11 (by decide))
      obtain rfl := c12 (hall 12 (by decide))
      have u7 := z7.below hbW (by omega)
      have ub := zb.trans (hbW.mono (by omega))
      clear z7 zb hall hB hsB c0 c1 c2 c3 c4 c5 c6 c7 c8 c9 c12 hbk
      go_wp2
      go_ret
      exact ⟨rfl, ub⟩
end

section
open Go Go.RowKit

theorem range_top {w : World} {g : Nat} {t : TypeId} {nm top : List Int} {h : Int} (hr : Row w g t (kc nm h top)) (hn : nm.length = 16) : w.rangeAt g 17 (v8 top).toList := fun j v hv => by
  have hj : j < top.length := by
    have := (List.getElem?_eq_some_iff.1 hv).1
    simpa [v8] using this
  obtain ⟨b, o, e, hc⟩ := kc_top hr hn (by omega)
  injection e with e
  injection e with e1 e2
  subst e1 e2
  rw [hc j hj, ← hv]
  simp [v8, gi, hj]
theorem q_load_top {ops : Array Oper} {ι : Type} {W : ι → World} {Q : Act → Prop} {rest : List Oper} {o : Oper} {a : Act} (x : Operand) (ho : o.op = .load 24 x) (hgd : o.guard = none)
    (g : Nat) (hx : a.eval x = .pointer (some ⟨g, 17, none⟩)) (nm top : List Int) (h : Int) (hr : ∀ i, Row (W i) g 80 (kc nm h top)) (hn : nm.length = 16) (ht : top.length = 32)
    (hk : wpQuiet Tryd.prog ops (fun w' => ∃ i, w' = W i) Q rest (a.put o.dst (.agg (v8 top)))) : wpQuiet Tryd.prog ops (fun w' => ∃ i, w' = W i) Q (o :: rest) a := by
  unfold wpQuiet
  simp only [Region.wanted, hgd, if_true]
  refine ⟨.agg (v8 top), fun w hw => ?_, hk⟩
  obtain ⟨i, rfl⟩ := hw
  have hrun := run_loadVar_mid (P := Tryd.prog) (W i) g 17 24 (v8 top).toList _ (range_top (hr i) hn) Tryd.underlying24 rfl (by rw [Array.length_toList]; exact id_info ht)
  rw [show (v8 top).toList.toArray = v8 top by simp] at hrun
  unfold Oper.quietAt execOp
  simp only [ho, hx, Instr.loadAt, Instr.sureAddr, Sem.run_bind, Sem.run_pure, Result.andThen_ok, hrun]
  exact ⟨rfl, rfl⟩

set_option maxRecDepth 20000 in
set_option maxHeartbeats 1000000 in
theorem lCheck_climb (P : List Int) (pp mp sp : Option Addr) (pl pc ml mc sl sc : Nat) (w0 : World) (hPl : P.length = pl) (hpc : pl ≤ pc) (hPb : Bytes w0 pp P) (hPr : ∀ x ∈ P, 0 ≤ x ∧ x < 256) (sig : List Int) (hsl : sig.length = sl) (hsc : sl ≤ sc) (hsb : Bytes w0 sp sig) (hsr : ∀ x ∈ sig, 0 ≤ x ∧ x < 256) (h : Nat) (hk : keyOk P) (hh : num4 P 0 = (h : Int)) (S : List Int → List Int) (hS : Hash S) (msg : List Int) (hml : msg.length = ml) (hmm : ml ≤ 17592186044416) (hmb : Bytes w0 mp msg) (hL : Laid w0) (hne : sl = 4300 + 32 * h) (hx : num4 sig 4296 = (h : Int)) (q : Nat) (hqq : num4 sig 0 = (q : Int)) (hq : q < 2 ^ h) (hty : ((sig.drop 4).take 4292).take 4 = n4 2) (htop : climbL S ((P.drop 8).take 16) (2 ^ h + q) (backL S ((P.drop 8).take 16 ++ n4 (q : Int)) msg ((sig.drop 4).take 4292)) (sig.drop 4300) h ≠ cutL P 24) :
    Calls Tryd.prog 27 #[.slice pp pl pc, .slice mp ml mc, .slice sp sl sc] w0 fun e w' => e = .returned (.int .i64 12) ∧ Below w0.heap.size w0 w' := by
  have hko := fun wx hb => keyOf_ok P pp pl pc wx hPl hpc hb hPr hk
  obtain ⟨hP56, g1, g2, g3⟩ := hk
  have hNl : ((P.drop 8).take 16).length = 16 := by simp; omega
  have hTl : (cutL P 24).length = 32 := by unfold cutL; simp; omega
  have h1 : 1 ≤ h := by omega
  have h5 : h ≤ 5 := by omega
  rw [hh] at hko
  clear hh g1 g2 g3
  have hsz := fun wx => sigSize_any h wx (by omega)
  generalize (P.drop 8).take 16 = NM at *
  generalize cutL P 24 = TOP at *
  have z1 := zkey
  have hsl4 : ((sig.drop 4).take 4292).length = 4292 := by simp; omega
  have hsc4 : ¬ sc = 4 := by omega
  have hsc96 : (4296 : Int) ≤ (sc : Int) := by omega
  have hsc43 : (4300 : Int) ≤ (sc : Int) := by omega
  obtain ⟨b8, o8, hsp, _⟩ := hsb (by omega)
  have hn0 : ∀ wx, Bytes wx sp sig → Calls Tryd.prog 53 #[.slice sp sl sc, .int .i64 0] wx fun e w' => e = .returned (.int .u32 (num4 sig 0)) ∧ Below wx.heap.size wx w' := fun wx hb => numberAt_any sig sp sl sc 0 wx hsl hsc (by omega) hb hsr
  have hr0 := num4_range (k := 0) hsr (by omega)
  have hlv := fun wx => leaves_any h wx h1 h5
  have hn32 : 2 ≤ 2 ^ h ∧ 2 ^ h ≤ 32 := by
    rcases (by omega : h = 1 ∨ h = 2 ∨ h = 3 ∨ h = 4 ∨ h = 5) with rfl | rfl | rfl | rfl | rfl <;> decide
  have hn96 : ∀ wx, Bytes wx sp sig → Calls Tryd.prog 53 #[.slice sp sl sc, .int .i64 4296] wx fun e w' => e = .returned (.int .u32 (num4 sig 4296)) ∧ Below wx.heap.size wx w' := fun wx hb => numberAt_any sig sp sl sc 4296 wx hsl hsc (by omega) hb hsr
  have hw32 : IntKind.wrap .u32 (h : Int) = (h : Int) := by rw [IntKind.wrap_u32]; omega
  have hneb : ((sl : Int) != 4300 + (h : Int) * 32) = false := by simp; omega
  rw [hx] at hn96
  have hxb : ((h : Int) != (h : Int)) = false := by simp
  clear hx
  subst hsp
  have hbk : ∀ wx, Laid wx → Below w0.heap.size w0 wx → Calls Tryd.prog 18 #[.agg (v8 NM), .int .i64 (q : Int), .slice mp ml mc, .slice (some ⟨b8, o8 + 4, none⟩) 4292 (sc - 4)] wx fun e w' => e = .returned (.tuple #[.agg (v8 (backL S (NM ++ n4 (q : Int)) msg ((sig.drop 4).take 4292))), .int .i64 0]) ∧ Below wx.heap.size wx w' := fun wx hl hb =>
    Back_ok S hS msg NM ((sig.drop 4).take 4292) q mp (some ⟨b8, o8 + 4, none⟩) ml mc 4292 (sc - 4) wx hl hNl hml hmm (hmb.below hb) hsl4 (by omega) ((Bytes.drop (hsb.below hb) 4).take 4292) rfl hty
  have hXl : (backL S (NM ++ n4 (q : Int)) msg ((sig.drop 4).take 4292)).length = 32 := hS.len _
  generalize backL S (NM ++ n4 (q : Int)) msg ((sig.drop 4).take 4292) = X at *
  have hcm : ∀ wx, Laid wx → Below w0.heap.size w0 wx → Calls Tryd.prog 54 #[.agg (kc NM (h : Int) TOP), .int .i64 (q : Int), .agg (v8 X), .slice (some ⟨b8, o8 + 4300, none⟩) (sl - 4300) (sc - 4300)] wx fun e w' => e = .returned (.agg (v8 (climbL S NM (2 ^ h + q) X (sig.drop 4300) h))) ∧ Below wx.heap.size wx w' := fun wx hl hb =>
    climb_any S hS NM TOP X (sig.drop 4300) h q (some ⟨b8, o8 + 4300, none⟩) (sl - 4300) (sc - 4300) wx hl hNl hXl h1 h5 hq (by rw [List.length_drop, hsl]) (by omega) (by omega) (Bytes.drop (hsb.below hb) 4300)
  have hCl : (climbL S NM (2 ^ h + q) X (sig.drop 4300) h).length = 32 := climbL_len (fun l => hS.len l) _ _ _ _ _
  generalize climbL S NM (2 ^ h + q) X (sig.drop 4300) h = C at *
  have hneq : ∀ wx, (binOp .neq 24 (.agg (v8 C)) (.agg (v8 TOP))).run Tryd.prog wx = .ok (.bool true) wx := fun wx => by
    rw [run_neq_bytes wx 24 5 32 _ _ Tryd.underlying24 Tryd.underlying5 (by kernel_rfl) hCl hTl]; simp [htop]
  clear htop
  have hsl43 : (4300 : Int) ≤ (sl : Int) := by omega
  have hsl43' : 4300 ≤ sl := by omega
  have hsc43' : ¬ sc = 4300 := by omega
  rw [hqq] at hn0 hr0
  clear hqq
  generalize 2 ^ h = n at *
  have hwn : IntKind.wrap .u32 (n : Int) = (n : Int) := by rw [IntKind.wrap_u32]; omega
  have hgt : decide ((q : Int) ≥ (n : Int)) = false := decide_eq_false (by omega)
  clear hne
  go_enter Tryd.func27, Tryd.ntmps27
  go_upto_region 2 with (first | (go_at_call 52; (with_reducible refine Calls.mono (hko _ hPb) ?_); rintro e w2 ⟨rfl, hb2⟩) | (refine store_row0 80 (.tmp 7) (.tmp 16) (by rfl) (by rfl) (by rfl) w2.heap.size (kc NM (h : Int) TOP) (by rfl) (by rfl) 80 kz (Row.new w2 80 _) (key_info hNl hTl) (by rw [kc_size hNl hTl]; rfl) (kc_one _ _ _) ?_))
  have r7 : Row ((w2.alloc (.cells kz 80)).setRow w2.heap.size (kc NM (h : Int) TOP)) w2.heap.size 80 (kc NM (h : Int) TOP) := (Row.new w2 80 _).setRow _
  have rb : Below w0.heap.size w0 ((w2.alloc (.cells kz 80)).setRow w2.heap.size (kc NM (h : Int) TOP)) := below_setRow (hb2.alloc hb2.size _) hb2.size _
  obtain ⟨g7, hg7⟩ : ∃ g7, g7 = w2.heap.size := ⟨_, rfl⟩
  have hg7b : w0.heap.size ≤ g7 := by have := hb2.size; omega
  change Code.wp _ _ _ _ ((w2.alloc (.cells kz 80)).setRow w2.heap.size (kc NM (h : Int) TOP))
  rw [← hg7] at r7 rb ⊢
  generalize (w2.alloc (.cells kz 80)).setRow g7 (kc NM (h : Int) TOP) = w3 at r7 rb ⊢
  clear hg7 hb2 hko
  go_upto_region 4 with fail
  refine region_tail 13 (by kernel_rfl) (by kernel_rfl) (by kernel_rfl) ?_
  apply Exists.intro
  refine ⟨fun ι _ W hb hc => ?_, fun w6 hb6 => ?_⟩
  · have t7 : ∀ i, (W i).cell? ⟨g7, 16, none⟩ = some (.int .i64 (h : Int)) := fun i => kc_height (r7.below (hb i) r7.lt) hNl
    simp only [List.take_succ_cons, List.take_zero]
    iterate 4 (go_big_quiet_step (fail))
    go_big_quiet_step ((go_at_call 50; exact (hsz _).mono (fun e w' ⟨he, hw⟩ => ⟨he, _, hw⟩)))
    iterate 3 (go_big_quiet_step (fail))
    go_big_quiet_step ((go_at_call 53; exact (hn96 _ ((hsb.below rb).below (hb _))).mono (fun e w' ⟨he, hw⟩ => ⟨he, hc _ _ hw⟩)))
    iterate 4 (go_big_quiet_step (fail))
    exact wpQuiet_nil rfl
  · simp only [List.drop_succ_cons, List.drop_zero]
    have y7 := r7.below hb6 r7.lt
    have yb := rb.trans (hb6.mono rb.size)
    have k6 := kc_height y7 hNl
    clear r7 rb hb6
    go_upto_region 10 with (first | (go_at_call 53; (with_reducible refine Calls.mono (hn0 _ (hsb.below yb)) ?_); rintro e w8 ⟨rfl, hb8⟩; have y8 := y7.below hb8 y7.lt; have yb8 := yb.trans (hb8.mono yb.size); have k8 := kc_height y8 hNl; clear k6) | (go_at_call 49; (with_reducible refine Calls.mono (hlv _) ?_); rintro e w9 ⟨rfl, hw⟩; obtain rfl := hw.symm; clear hw))
    have z7 := y8
    have zb := yb8
    clear y7 y8 yb yb8 k8
    have hz7 := z7.lt
    have hzb := zb.size
    obtain ⟨B, hB⟩ : ∃ B, B = w8.heap.size := ⟨_, rfl⟩
    have hsB : ∀ {w : World}, Below B w8 w → B ≤ w.heap.size := fun h => by have := h.size; omega
    refine region_invFA  (by kernel_rfl) (by kernel_rfl) (fun a0 listed a w => ∃ s11 s12 s44 s45 s46 s47 s48 s49 s50 s51 s52 s53, a = (Act.put (Act.put (Act.put (Act.put (Act.put (Act.put (Act.put (Act.put (Act.put (Act.put (Act.put (Act.put a0 (some 11) s11) (some 12) s12) (some 44) s44) (some 45) s45) (some 46) s46) (some 47) s47) (some 48) s48) (some 49) s49) (some 50) s50) (some 51) s51) (some 52) s52) (some 53) s53) ∧ Below B w8 w ∧ (listed.getD 0 false = true → s45 = .pointer (some ⟨g7, 0, none⟩)) ∧ (listed.getD 1 false = true → s46 = .agg (v8 NM)) ∧ (listed.getD 2 false = true → s47 = .int .i64 (q : Int)) ∧ (listed.getD 3 false = true → s48 = .slice mp ml mc) ∧ (listed.getD 4 false = true → s49 = .slice (some ⟨b8, o8, none⟩) sl sc) ∧ (listed.getD 5 false = true → s50 = .slice (some ⟨b8, o8 + 4, none⟩) 4292 (sc - 4)) ∧ (listed.getD 6 false = true → s51 = .tuple #[.agg (v8 X), .int .i64 0]) ∧ (listed.getD 7 false = true → s44 = .tuple #[.agg (v8 X), .int .i64 0]) ∧ (listed.getD 8 false = true → s52 = .agg (v8 X)) ∧ (listed.getD 9 false = true → s53 = .int .i64 0) ∧ (listed.getD 10 false = true → listed.getD 11 false = false → VarS w B s11 24 (zer 32)) ∧ (listed.getD 11 false = true → VarS w B s11 24 X) ∧ (listed.getD 12 false = true → s12 = .int .i64 0)) ?_ ?_ ?_
    all_goals simp only [Act.put, List.setIfInBounds_toArray, List.set_cons_succ, List.set_cons_zero]
    · exact ⟨_, _, _, _, _, _, _, _, _, _, _, _, rfl, (Below.refl B _).drew, (fun h => absurd h (by rw [getD_replicate_false]; decide)), (fun h => absurd h (by rw [getD_replicate_false]; decide)), (fun h => absurd h (by rw [getD_replicate_false]; decide)), (fun h => absurd h (by rw [getD_replicate_false]; decide)), (fun h => absurd h (by rw [getD_replicate_false]; decide)), (fun h => absurd h (by rw [getD_replicate_false]; decide)), (fun h => absurd h (by rw [getD_replicate_false]; decide)), (fun h => absurd h (by rw [getD_replicate_false]; decide)), (fun h => absurd h (by rw [getD_replicate_false]; decide)), (fun h => absurd h (by rw [getD_replicate_false]; decide)), (fun h => absurd h (by rw [getD_replicate_false]; decide)), (fun h => absurd h (by rw [getD_replicate_false]; decide)), (fun h => absurd h (by rw [getD_replicate_false]; decide))⟩
    · intro listed a w i o hls hJ hin ho hi hall hcl
      obtain ⟨s11, s12, s44, s45, s46, s47, s48, s49, s50, s51, s52, s53, rfl, hbW, c0, c1, c2, c3, c4, c5, c6, c7, c8, c9, c10, c11, c12⟩ := hJ
      replace hin : i < 13 := hin
      rcases (by omega : i = 0 ∨ i = 1 ∨ i = 2 ∨ i = 3 ∨ i = 4 ∨ i = 5 ∨ i = 6 ∨ i = 7 ∨ i = 8 ∨ i = 9 ∨ i = 10 ∨ i = 11 ∨ i = 12) with rfl | rfl | rfl | rfl | rfl | rfl | rfl | rfl | rfl | rfl | rfl | rfl | rfl
      · obtain rfl := Option.some.inj ho
        have hsz : 0 < listed.size := by rw [hls]; decide
        have hbw := hbW
        refine inv_val (w' := w) (.pointer (some ⟨g7, 0, none⟩)) rfl rfl (by kernel_rfl) ?_
        exact ⟨s11, s12, s44, (.pointer (some ⟨g7, 0, none⟩)), s46, s47, s48, s49, s50, s51, s52, s53, rfl, hbw, (fun _ => rfl), (fun h => c1 (bit_ne h (by decide))), (fun h => c2 (bit_ne h (by decide))), (fun h => c3 (bit_ne h (by decide))), (fun h => c4 (bit_ne h (by decide))), (fun h => c5 (bit_ne h (by decide))), (fun h => c6 (bit_ne h (by decide))), (fun h => c7 (bit_ne h (by decide))), (fun h => c8 (bit_ne h (by decide))), (fun h => c9 (bit_ne h (by decide))), (fun h h2 => c10 (bit_ne h (by decide)) (bit_ne h2 (by decide))), (fun h => c11 (bit_ne h (by decide))), (fun h => c12 (bit_ne h (by decide)))⟩
      · obtain rfl := Option.some.inj ho
        have hsz : 1 < listed.size := by rw [hls]; decide
        have hdep0 : listed.getD 0 false = true := hall ⟨0, .data⟩ (by simp) (by rfl)
        obtain rfl := c0 hdep0
        have hbw := hbW
        refine inv_val (w' := w) (.agg (v8 NM)) rfl rfl (exec_load_name (.tmp 45) rfl g7 rfl NM TOP h (z7.below hbW (by omega)) hNl) ?_
        exact ⟨s11, s12, s44, (.pointer (some ⟨g7, 0, none⟩)), (.agg (v8 NM)), s47, s48, s49, s50, s51, s52, s53, rfl, hbw, (fun h => c0 (bit_ne h (by decide))), (fun _ => rfl), (fun h => c2 (bit_ne h (by decide))), (fun h => c3 (bit_ne h (by decide))), (fun h => c4 (bit_ne h (by decide))), (fun h => c5 (bit_ne h (by decide))), (fun h => c6 (bit_ne h (by decide))), (fun h => c7 (bit_ne h (by decide))), (fun h => c8 (bit_ne h (by decide))), (fun h => c9 (bit_ne h (by decide))), (fun h h2 => c10 (bit_ne h (by decide)) (bit_ne h2 (by decide))), (fun h => c11 (bit_ne h (by decide))), (fun h => c12 (bit_ne h (by decide)))⟩
      · obtain rfl := Option.some.inj ho
        have hsz : 2 < listed.size := by rw [hls]; decide
        have hbw := hbW
        refine inv_val (w' := w) (.int .i64 (q : Int)) rfl rfl rfl ?_
        exact ⟨s11, s12, s44, s45, s46, (.int .i64 (q : Int)), s48, s49, s50, s51, s52, s53, rfl, hbw, (fun h => c0 (bit_ne h (by decide))), (fun h => c1 (bit_ne h (by decide))), (fun _ => rfl), (fun h => c3 (bit_ne h (by decide))), (fun h => c4 (bit_ne h (by decide))), (fun h => c5 (bit_ne h (by decide))), (fun h => c6 (bit_ne h (by decide))), (fun h => c7 (bit_ne h (by decide))), (fun h => c8 (bit_ne h (by decide))), (fun h => c9 (bit_ne h (by decide))), (fun h h2 => c10 (bit_ne h (by decide)) (bit_ne h2 (by decide))), (fun h => c11 (bit_ne h (by decide))), (fun h => c12 (bit_ne h (by decide)))⟩
      · obtain rfl := Option.some.inj ho
        have hsz : 3 < listed.size := by rw [hls]; decide
        have hbw := hbW
        refine inv_val (w' := w) (.slice mp ml mc) rfl rfl rfl ?_
        exact ⟨s11, s12, s44, s45, s46, s47, (.slice mp ml mc), s49, s50, s51, s52, s53, rfl, hbw, (fun h => c0 (bit_ne h (by decide))), (fun h => c1 (bit_ne h (by decide))), (fun h => c2 (bit_ne h (by decide))), (fun _ => rfl), (fun h => c4 (bit_ne h (by decide))), (fun h => c5 (bit_ne h (by decide))), (fun h => c6 (bit_ne h (by decide))), (fun h => c7 (bit_ne h (by decide))), (fun h => c8 (bit_ne h (by decide))), (fun h => c9 (bit_ne h (by decide))), (fun h h2 => c10 (bit_ne h (by decide)) (bit_ne h2 (by decide))), (fun h => c11 (bit_ne h (by decide))), (fun h => c12 (bit_ne h (by decide)))⟩
      · obtain rfl := Option.some.inj ho
        have hsz : 4 < listed.size := by rw [hls]; decide
        have hbw := hbW
        refine inv_val (w' := w) (.slice (some ⟨b8, o8, none⟩) sl sc) rfl rfl rfl ?_
        exact ⟨s11, s12, s44, s45, s46, s47, s48, (.slice (some ⟨b8, o8, none⟩) sl sc), s50, s51, s52, s53, rfl, hbw, (fun h => c0 (bit_ne h (by decide))), (fun h => c1 (bit_ne h (by decide))), (fun h => c2 (bit_ne h (by decide))), (fun h => c3 (bit_ne h (by decide))), (fun _ => rfl), (fun h => c5 (bit_ne h (by decide))), (fun h => c6 (bit_ne h (by decide))), (fun h => c7 (bit_ne h (by decide))), (fun h => c8 (bit_ne h (by decide))), (fun h => c9 (bit_ne h (by decide))), (fun h h2 => c10 (bit_ne h (by decide)) (bit_ne h2 (by decide))), (fun h => c11 (bit_ne h (by decide))), (fun h => c12 (bit_ne h (by decide)))⟩
      · obtain rfl := Option.some.inj ho
        have hsz : 5 < listed.size := by rw [hls]; decide
        have hdep4 : listed.getD 4 false = true := hall ⟨4, .data⟩ (by simp) (by rfl)
        obtain rfl := c4 hdep4
        have hbw := hbW
        refine inv_val (w' := w) (.slice (some ⟨b8, o8 + 4, none⟩) 4292 (sc - 4)) rfl rfl (by go_simp) ?_
        exact ⟨s11, s12, s44, s45, s46, s47, s48, (.slice (some ⟨b8, o8, none⟩) sl sc), (.slice (some ⟨b8, o8 + 4, none⟩) 4292 (sc - 4)), s51, s52, s53, rfl, hbw, (fun h => c0 (bit_ne h (by decide))), (fun h => c1 (bit_ne h (by decide))), (fun h => c2 (bit_ne h (by decide))), (fun h => c3 (bit_ne h (by decide))), (fun h => c4 (bit_ne h (by decide))), (fun _ => rfl), (fun h => c6 (bit_ne h (by decide))), (fun h => c7 (bit_ne h (by decide))), (fun h => c8 (bit_ne h (by decide))), (fun h => c9 (bit_ne h (by decide))), (fun h h2 => c10 (bit_ne h (by decide)) (bit_ne h2 (by decide))), (fun h => c11 (bit_ne h (by decide))), (fun h => c12 (bit_ne h (by decide)))⟩
      · obtain rfl := Option.some.inj ho
        have hsz : 6 < listed.size := by rw [hls]; decide
        have hdep1 : listed.getD 1 false = true := hall ⟨1, .data⟩ (by simp) (by rfl)
        obtain rfl := c1 hdep1
        have hdep2 : listed.getD 2 false = true := hall ⟨2, .data⟩ (by simp) (by rfl)
        obtain rfl := c2 hdep2
        have hdep3 : listed.getD 3 false = true := hall ⟨3, .data⟩ (by simp) (by rfl)
        obtain rfl := c3 hdep3
        have hdep5 : listed.getD 5 false = true := hall ⟨5, .data⟩ (by simp) (by rfl)
        obtain rfl := c5 hdep5
        refine inv_call 18 #[.agg (v8 NM), .int .i64 (q : Int), .slice mp ml mc, .slice (some ⟨b8, o8 + 4, none⟩) 4292 (sc - 4)] _ rfl rfl (by kernel_rfl) (hbk w (hL.below (zb.trans (hbW.mono (by omega)))) (zb.trans (hbW.mono (by omega)))) ?_
        rintro e w' ⟨rfl, hb⟩
        have hbw : Below B w8 w' := hbW.trans (hb.mono (hsB hbW))
        refine ⟨_, rfl, ?_⟩
        exact ⟨s11, s12, s44, s45, (.agg (v8 NM)), (.int .i64 (q : Int)), (.slice mp ml mc), s49, (.slice (some ⟨b8, o8 + 4, none⟩) 4292 (sc - 4)), (.tuple #[.agg (v8 X), .int .i64 0]), s52, s53, rfl, hbw, (fun h => c0 (bit_ne h (by decide))), (fun h => c1 (bit_ne h (by decide))), (fun h => c2 (bit_ne h (by decide))), (fun h => c3 (bit_ne h (by decide))), (fun h => c4 (bit_ne h (by decide))), (fun h => c5 (bit_ne h (by decide))), (fun _ => rfl), (fun h => c7 (bit_ne h (by decide))), (fun h => c8 (bit_ne h (by decide))), (fun h => c9 (bit_ne h (by decide))), (fun h h2 => (c10 (bit_ne h (by decide)) (bit_ne h2 (by decide))).below hb), (fun h => (c11 (bit_ne h (by decide))).below hb), (fun h => c12 (bit_ne h (by decide)))⟩
      · obtain rfl := Option.some.inj ho
        have hsz : 7 < listed.size := by rw [hls]; decide
        have hdep6 : listed.getD 6 false = true := hall ⟨6, .data⟩ (by simp) (by rfl)
        obtain rfl := c6 hdep6
        have hbw := hbW
        refine inv_val (w' := w) (.tuple #[.agg (v8 X), .int .i64 0]) rfl rfl rfl ?_
        exact ⟨s11, s12, (.tuple #[.agg (v8 X), .int .i64 0]), s45, s46, s47, s48, s49, s50, (.tuple #[.agg (v8 X), .int .i64 0]), s52, s53, rfl, hbw, (fun h => c0 (bit_ne h (by decide))), (fun h => c1 (bit_ne h (by decide))), (fun h => c2 (bit_ne h (by decide))), (fun h => c3 (bit_ne h (by decide))), (fun h => c4 (bit_ne h (by decide))), (fun h => c5 (bit_ne h (by decide))), (fun h => c6 (bit_ne h (by decide))), (fun _ => rfl), (fun h => c8 (bit_ne h (by decide))), (fun h => c9 (bit_ne h (by decide))), (fun h h2 => c10 (bit_ne h (by decide)) (bit_ne h2 (by decide))), (fun h => c11 (bit_ne h (by decide))), (fun h => c12 (bit_ne h (by decide)))⟩
      · obtain rfl := Option.some.inj ho
        have hsz : 8 < listed.size := by rw [hls]; decide
        have hdep7 : listed.getD 7 false = true := hall ⟨7, .data⟩ (by simp) (by rfl)
        obtain rfl := c7 hdep7
        have hbw := hbW
        refine inv_val (w' := w) (.agg (v8 X)) rfl rfl (by kernel_rfl) ?_
        exact ⟨s11, s12, (.tuple #[.agg (v8 X), .int .i64 0]), s45, s46, s47, s48, s49, s50, s51, (.agg (v8 X)), s53, rfl, hbw, (fun h => c0 (bit_ne h (by decide))), (fun h => c1 (bit_ne h (by decide))), (fun h => c2 (bit_ne h (by decide))), (fun h => c3 (bit_ne h (by decide))), (fun h => c4 (bit_ne h (by decide))), (fun h => c5 (bit_ne h (by decide))), (fun h => c6 (bit_ne h (by decide))), (fun h => c7 (bit_ne h (by decide))), (fun _ => rfl), (fun h => c9 (bit_ne h (by decide))), (fun h h2 => c10 (bit_ne h (by decide)) (bit_ne h2 (by decide))), (fun h => c11 (bit_ne h (by decide))), (fun h => c12 (bit_ne h (by decide)))⟩
      · obtain rfl := Option.some.inj ho
        have hsz : 9 < listed.size := by rw [hls]; decide
        have hdep7 : listed.getD 7 false = true := hall ⟨7, .data⟩ (by simp) (by rfl)
        obtain rfl := c7 hdep7
        have hbw := hbW
        refine inv_val (w' := w) (.int .i64 0) rfl rfl (by kernel_rfl) ?_
        exact ⟨s11, s12, (.tuple #[.agg (v8 X), .int .i64 0]), s45, s46, s47, s48, s49, s50, s51, s52, (.int .i64 0), rfl, hbw, (fun h => c0 (bit_ne h (by decide))), (fun h => c1 (bit_ne h (by decide))), (fun h => c2 (bit_ne h (by decide))), (fun h => c3 (bit_ne h (by decide))), (fun h => c4 (bit_ne h (by decide))), (fun h => c5 (bit_ne h (by decide))), (fun h => c6 (bit_ne h (by decide))), (fun h => c7 (bit_ne h (by decide))), (fun h => c8 (bit_ne h (by decide))), (fun _ => rfl), (fun h h2 => c10 (bit_ne h (by decide)) (bit_ne h2 (by decide))), (fun h => c11 (bit_ne h (by decide))), (fun h => c12 (bit_ne h (by decide)))⟩
      · obtain rfl := Option.some.inj ho
        have hsz : 10 < listed.size := by rw [hls]; decide
        have hbw : Below B w8 (w.alloc (.cells (v8 (zer 32)) 24)) := hbW.alloc (hsB hbW) _
        refine inv_val (.pointer (some ⟨w.heap.size, 0, none⟩)) (w' := w.alloc (.cells (v8 (zer 32)) 24)) rfl rfl (by kernel_rfl) ?_
        exact ⟨(.pointer (some ⟨w.heap.size, 0, none⟩)), s12, s44, s45, s46, s47, s48, s49, s50, s51, s52, s53, rfl, hbw, (fun h => c0 (bit_ne h (by decide))), (fun h => c1 (bit_ne h (by decide))), (fun h => c2 (bit_ne h (by decide))), (fun h => c3 (bit_ne h (by decide))), (fun h => c4 (bit_ne h (by decide))), (fun h => c5 (bit_ne h (by decide))), (fun h => c6 (bit_ne h (by decide))), (fun h => c7 (bit_ne h (by decide))), (fun h => c8 (bit_ne h (by decide))), (fun h => c9 (bit_ne h (by decide))), (fun _ _ => VarS.new w B (hsB hbW) _ _), (fun h => absurd (hcl 11 _ rfl (bit_ne h (by decide)) ⟨10, .data⟩ (by simp) rfl) (by rw [hi]; decide)), (fun h => c12 (bit_ne h (by decide)))⟩
      · obtain rfl := Option.some.inj ho
        have hsz : 11 < listed.size := by rw [hls]; decide
        have hdep10 : listed.getD 10 false = true := hall ⟨10, .data⟩ (by simp) (by rfl)
        have hdep8 : listed.getD 8 false = true := hall ⟨8, .data⟩ (by simp) (by rfl)
        obtain rfl := c8 hdep8
        obtain ⟨bV, rfl, rV, hbV⟩ := c10 hdep10 hi
        refine inv_store 24 (.tmp 11) (.tmp 52) rfl rfl rfl rfl bV X rfl rfl 24 (zer 32) rV (id_info hXl) ((zer_len 32).trans hXl.symm) ?_
        have hbw : Below B w8 (w.setRow bV (v8 X)) := below_setRow hbW hbV _
        exact ⟨(.pointer (some ⟨bV, 0, none⟩)), s12, s44, s45, s46, s47, s48, s49, s50, s51, (.agg (v8 X)), s53, rfl, hbw, (fun h => c0 (bit_ne h (by decide))), (fun h => c1 (bit_ne h (by decide))), (fun h => c2 (bit_ne h (by decide))), (fun h => c3 (bit_ne h (by decide))), (fun h => c4 (bit_ne h (by decide))), (fun h => c5 (bit_ne h (by decide))), (fun h => c6 (bit_ne h (by decide))), (fun h => c7 (bit_ne h (by decide))), (fun h => c8 (bit_ne h (by decide))), (fun h => c9 (bit_ne h (by decide))), (fun _ h2 => absurd (bit_on hsz) (by rw [h2]; decide)), (fun _ => ⟨bV, rfl, rV.setRow _, hbV⟩), (fun h => c12 (bit_ne h (by decide)))⟩
      · obtain rfl := Option.some.inj ho
        have hsz : 12 < listed.size := by rw [hls]; decide
        have hdep9 : listed.getD 9 false = true := hall ⟨9, .data⟩ (by simp) (by rfl)
        obtain rfl := c9 hdep9
        have hbw := hbW
        refine inv_val (w' := w) (.int .i64 0) rfl rfl rfl ?_
        exact ⟨s11, (.int .i64 0), s44, s45, s46, s47, s48, s49, s50, s51, s52, (.int .i64 0), rfl, hbw, (fun h => c0 (bit_ne h (by decide))), (fun h => c1 (bit_ne h (by decide))), (fun h => c2 (bit_ne h (by decide))), (fun h => c3 (bit_ne h (by decide))), (fun h => c4 (bit_ne h (by decide))), (fun h => c5 (bit_ne h (by decide))), (fun h => c6 (bit_ne h (by decide))), (fun h => c7 (bit_ne h (by decide))), (fun h => c8 (bit_ne h (by decide))), (fun h => c9 (bit_ne h (by decide))), (fun h h2 => c10 (bit_ne h (by decide)) (bit_ne h2 (by decide))), (fun h => c11 (bit_ne h (by decide))), (fun _ => rfl)⟩
    · intro listed a w hall hJ
      obtain ⟨s11, s12, s44, s45, s46, s47, s48, s49, s50, s51, s52, s53, rfl, hbW, c0, c1, c2, c3, c4, c5, c6, c7, c8, c9, c10, c11, c12⟩ := hJ
      obtain rfl := c0 (hall 0 (by decide))
      obtain rfl := c1 (hall 1 (by decide))
      obtain rfl := c2 (hall 2 (by decide))
      obtain rfl := c3 (hall 3 (by decide))
      obtain rfl := c4 (hall 4 (by decide))
      obtain rfl := c5 (hall 5 (by decide))
      obtain rfl := c6 (hall 6 (by decide))
      obtain rfl := c7 (hall 7 (by decide))
      obtain rfl := c8 (hall 8 (by decide))
      obtain rfl := c9 (hall 9 (by decide))
      obtain ⟨b11, rfl, r11, hb11⟩ := c11 (hall 11 (by decide))
      obtain rfl := c12 (hall 12 (by decide))
      have u7 := z7.below hbW (by omega)
      have ub := zb.trans (hbW.mono (by omega))
      clear z7 zb hall hB hsB c0 c1 c2 c3 c4 c5 c6 c7 c8 c9 c12 hbk
      have ur := r11
      clear r11
      have hu7 := u7.lt
      go_upto_region 13 with fail
      refine region_tail 8 (by kernel_rfl) (by kernel_rfl) (by kernel_rfl) ?_
      apply Exists.intro
      refine ⟨fun ι _ W hb hc => ?_, fun w9 hb9 => ?_⟩
      · have t7 : ∀ i, Row (W i) g7 80 (kc NM (h : Int) TOP) := fun i => u7.below (hb i) u7.lt
        have tr : ∀ i, Row (W i) b11 24 (v8 X) := fun i => ur.below (hb i) ur.lt
        have tB : ∀ i, Below w0.heap.size w0 (W i) := fun i => ub.trans ((hb i).mono ub.size)
        simp only [List.take_succ_cons, List.take_zero]
        refine q_load_row 80 (.tmp 7) (by rfl) (by rfl) g7 (by rfl) 80 _ _ t7 Tryd.underlying80 rfl (key_info hNl hTl) ?_
        simp only [Act.put, List.setIfInBounds_toArray, List.set_cons_succ, List.set_cons_zero]
        go_big_quiet_step (fail)
        refine q_load_row 24 (.tmp 11) (by rfl) (by rfl) b11 (by rfl) 24 _ _ tr Tryd.underlying24 rfl (id_info hXl) ?_
        simp only [Act.put, List.setIfInBounds_toArray, List.set_cons_succ, List.set_cons_zero]
        iterate 2 (go_big_quiet_step (fail))
        go_big_quiet_step ((go_at_call 54; exact (hcm _ (hL.below (tB _)) (tB _)).mono (fun e w' ⟨he, hw⟩ => ⟨he, hc _ _ hw⟩)))
        go_big_quiet_step (fail)
        refine q_load_top (.tmp 63) (by rfl) (by rfl) g7 (by rfl) NM TOP h t7 hNl hTl ?_
        simp only [Act.put, List.setIfInBounds_toArray, List.set_cons_succ, List.set_cons_zero]
        exact wpQuiet_nil rfl
      · simp only [List.drop_succ_cons, List.drop_zero]
        go_wp2
        go_ret
        exact ⟨rfl, ub.trans (hb9.mono ub.size)⟩
set_option maxRecDepth 20000 in
set_option maxHeartbeats 1000000 in
theorem lCheck_ok (P : List Int) (pp mp sp : Option Addr) (pl pc ml mc sl sc : Nat) (w0 : World) (hPl : P.length = pl) (hpc : pl ≤ pc) (hPb : Bytes w0 pp P) (hPr : ∀ x ∈ P, 0 ≤ x ∧ x < 256) (sig : List Int) (hsl : sig.length = sl) (hsc : sl ≤ sc) (hsb : Bytes w0 sp sig) (hsr : ∀ x ∈ sig, 0 ≤ x ∧ x < 256) (h : Nat) (hk : keyOk P) (hh : num4 P 0 = (h : Int)) (S : List Int → List Int) (hS : Hash S) (msg : List Int) (hml : msg.length = ml) (hmm : ml ≤ 17592186044416) (hmb : Bytes w0 mp msg) (hL : Laid w0) (hne : sl = 4300 + 32 * h) (hx : num4 sig 4296 = (h : Int)) (q : Nat) (hqq : num4 sig 0 = (q : Int)) (hq : q < 2 ^ h) (hty : ((sig.drop 4).take 4292).take 4 = n4 2) (htop : climbL S ((P.drop 8).take 16) (2 ^ h + q) (backL S ((P.drop 8).take 16 ++ n4 (q : Int)) msg ((sig.drop 4).take 4292)) (sig.drop 4300) h = cutL P 24) :
    Calls Tryd.prog 27 #[.slice pp pl pc, .slice mp ml mc, .slice sp sl sc] w0 fun e w' => e = .returned (.int .i64 0) ∧ Below w0.heap.size w0 w' := by
  have hko := fun wx hb => keyOf_ok P pp pl pc wx hPl hpc hb hPr hk
  obtain ⟨hP56, g1, g2, g3⟩ := hk
  have hNl : ((P.drop 8).take 16).length = 16 := by simp; omega
  have hTl : (cutL P 24).length = 32 := by unfold cutL; simp; omega
  have h1 : 1 ≤ h := by omega
  have h5 : h ≤ 5 := by omega
  rw [hh] at hko
  clear hh g1 g2 g3
  have hsz := fun wx => sigSize_any h wx (by omega)
  generalize (P.drop 8).take 16 = NM at *
  generalize cutL P 24 = TOP at *
  have z1 := zkey
  have hsl4 : ((sig.drop 4).take 4292).length = 4292 := by simp; omega
  have hsc4 : ¬ sc = 4 := by omega
  have hsc96 : (4296 : Int) ≤ (sc : Int) := by omega
  have hsc43 : (4300 : Int) ≤ (sc : Int) := by omega
  obtain ⟨b8, o8, hsp, _⟩ := hsb (by omega)
  have hn0 : ∀ wx, Bytes wx sp sig → Calls Tryd.prog 53 #[.slice sp sl sc, .int .i64 0] wx fun e w' => e = .returned (.int .u32 (num4 sig 0)) ∧ Below wx.heap.size wx w' := fun wx hb => numberAt_any sig sp sl sc 0 wx hsl hsc (by omega) hb hsr
  have hr0 := num4_range (k := 0) hsr (by omega)
  have hlv := fun wx => leaves_any h wx h1 h5
  have hn32 : 2 ≤ 2 ^ h ∧ 2 ^ h ≤ 32 := by
    rcases (by omega : h = 1 ∨ h = 2 ∨ h = 3 ∨ h = 4 ∨ h = 5) with rfl | rfl | rfl | rfl | rfl <;> decide
  have hn96 : ∀ wx, Bytes wx sp sig → Calls Tryd.prog 53 #[.slice sp sl sc, .int .i64 4296] wx fun e w' => e = .returned (.int .u32 (num4 sig 4296)) ∧ Below wx.heap.size wx w' := fun wx hb => numberAt_any sig sp sl sc 4296 wx hsl hsc (by omega) hb hsr
  have hw32 : IntKind.wrap .u32 (h : Int) = (h : Int) := by rw [IntKind.wrap_u32]; omega
  have hneb : ((sl : Int) != 4300 + (h : Int) * 32) = false := by simp; omega
  rw [hx] at hn96
  have hxb : ((h : Int) != (h : Int)) = false := by simp
  clear hx
  subst hsp
  have hbk : ∀ wx, Laid wx → Below w0.heap.size w0 wx → Calls Tryd.prog 18 #[.agg (v8 NM), .int .i64 (q : Int), .slice mp ml mc, .slice (some ⟨b8, o8 + 4, none⟩) 4292 (sc - 4)] wx fun e w' => e = .returned (.tuple #[.agg (v8 (backL S (NM ++ n4 (q : Int)) msg ((sig.drop 4).take 4292))), .int .i64 0]) ∧ Below wx.heap.size wx w' := fun wx hl hb =>
    Back_ok S hS msg NM ((sig.drop 4).take 4292) q mp (some ⟨b8, o8 + 4, none⟩) ml mc 4292 (sc - 4) wx hl hNl hml hmm (hmb.below hb) hsl4 (by omega) ((Bytes.drop (hsb.below hb) 4).take 4292) rfl hty
  have hXl : (backL S (NM ++ n4 (q : Int)) msg ((sig.drop 4).take 4292)).length = 32 := hS.len _
  generalize backL S (NM ++ n4 (q : Int)) msg ((sig.drop 4).take 4292) = X at *
  have hcm : ∀ wx, Laid wx → Below w0.heap.size w0 wx → Calls Tryd.prog 54 #[.agg (kc NM (h : Int) TOP), .int .i64 (q : Int), .agg (v8 X), .slice (some ⟨b8, o8 + 4300, none⟩) (sl - 4300) (sc - 4300)] wx fun e w' => e = .returned (.agg (v8 (climbL S NM (2 ^ h + q) X (sig.drop 4300) h))) ∧ Below wx.heap.size wx w' := fun wx hl hb =>
    climb_any S hS NM TOP X (sig.drop 4300) h q (some ⟨b8, o8 + 4300, none⟩) (sl - 4300) (sc - 4300) wx hl hNl hXl h1 h5 hq (by rw [List.length_drop, hsl]) (by omega) (by omega) (Bytes.drop (hsb.below hb) 4300)
  have hCl : (climbL S NM (2 ^ h + q) X (sig.drop 4300) h).length = 32 := climbL_len (fun l => hS.len l) _ _ _ _ _
  generalize climbL S NM (2 ^ h + q) X (sig.drop 4300) h = C at *
  have hneq : ∀ wx, (binOp .neq 24 (.agg (v8 C)) (.agg (v8 TOP))).run Tryd.prog wx = .ok (.bool false) wx := fun wx => by
    rw [run_neq_bytes wx 24 5 32 _ _ Tryd.underlying24 Tryd.underlying5 (by kernel_rfl) hCl hTl]; simp [htop]
  clear htop
  have hsl43 : (4300 : Int) ≤ (sl : Int) := by omega
  have hsl43' : 4300 ≤ sl := by omega
  have hsc43' : ¬ sc = 4300 := by omega
  rw [hqq] at hn0 hr0
  clear hqq
  generalize 2 ^ h = n at *
  have hwn : IntKind.wrap .u32 (n : Int) = (n : Int) := by rw [IntKind.wrap_u32]; omega
  have hgt : decide ((q : Int) ≥ (n : Int)) = false := decide_eq_false (by omega)
  clear hne
  go_enter Tryd.func27, Tryd.ntmps27
  go_upto_region 2 with (first | (go_at_call 52; (with_reducible refine Calls.mono (hko _ hPb) ?_); rintro e w2 ⟨rfl, hb2⟩) | (refine store_row0 80 (.tmp 7) (.tmp 16) (by rfl) (by rfl) (by rfl) w2.heap.size (kc NM (h : Int) TOP) (by rfl) (by rfl) 80 kz (Row.new w2 80 _) (key_info hNl hTl) (by rw [kc_size hNl hTl]; rfl) (kc_one _ _ _) ?_))
  have r7 : Row ((w2.alloc (.cells kz 80)).setRow w2.heap.size (kc NM (h : Int) TOP)) w2.heap.size 80 (kc NM (h : Int) TOP) := (Row.new w2 80 _).setRow _
  have rb : Below w0.heap.size w0 ((w2.alloc (.cells kz 80)).setRow w2.heap.size (kc NM (h : Int) TOP)) := below_setRow (hb2.alloc hb2.size _) hb2.size _
  obtain ⟨g7, hg7⟩ : ∃ g7, g7 = w2.heap.size := ⟨_, rfl⟩
  have hg7b : w0.heap.size ≤ g7 := by have := hb2.size; omega
  change Code.wp _ _ _ _ ((w2.alloc (.cells kz 80)).setRow w2.heap.size (kc NM (h : Int) TOP))
  rw [← hg7] at r7 rb ⊢
  generalize (w2.alloc (.cells kz 80)).setRow g7 (kc NM (h : Int) TOP) = w3 at r7 rb ⊢
  clear hg7 hb2 hko
  go_upto_region 4 with fail
  refine region_tail 13 (by kernel_rfl) (by kernel_rfl) (by kernel_rfl) ?_
  apply Exists.intro
  refine ⟨fun ι _ W hb hc => ?_, fun w6 hb6 => ?_⟩
  · have t7 : ∀ i, (W i).cell? ⟨g7, 16, none⟩ = some (.int .i64 (h : Int)) := fun i => kc_height (r7.below (hb i) r7.lt) hNl
    simp only [List.take_succ_cons, List.take_zero]
    iterate 4 (go_big_quiet_step (fail))
    go_big_quiet_step ((go_at_call 50; exact (hsz _).mono (fun e w' ⟨he, hw⟩ => ⟨he, _, hw⟩)))
    iterate 3 (go_big_quiet_step (fail))
    go_big_quiet_step ((go_at_call 53; exact (hn96 _ ((hsb.below rb).below (hb _))).mono (fun e w' ⟨he, hw⟩ => ⟨he, hc _ _ hw⟩)))
    iterate 4 (go_big_quiet_step (fail))
    exact wpQuiet_nil rfl
  · simp only [List.drop_succ_cons, List.drop_zero]
    have y7 := r7.below hb6 r7.lt
    have yb := rb.trans (hb6.mono rb.size)
    have k6 := kc_height y7 hNl
    clear r7 rb hb6
    go_upto_region 10 with (first | (go_at_call 53; (with_reducible refine Calls.mono (hn0 _ (hsb.below yb)) ?_); rintro e w8 ⟨rfl, hb8⟩; have y8 := y7.below hb8 y7.lt; have yb8 := yb.trans (hb8.mono yb.size); have k8 := kc_height y8 hNl; clear k6) | (go_at_call 49; (with_reducible refine Calls.mono (hlv _) ?_); rintro e w9 ⟨rfl, hw⟩; obtain rfl := hw.symm; clear hw))
    have z7 := y8
    have zb := yb8
    clear y7 y8 yb yb8 k8
    have hz7 := z7.lt
    have hzb := zb.size
    obtain ⟨B, hB⟩ : ∃ B, B = w8.heap.size := ⟨_, rfl⟩
    have hsB : ∀ {w : World}, Below B w8 w → B ≤ w.heap.size := fun h => by have := h.size; omega
    refine region_invFA  (by kernel_rfl) (by kernel_rfl) (fun a0 listed a w => ∃ s11 s12 s44 s45 s46 s47 s48 s49 s50 s51 s52 s53, a = (Act.put (Act.put (Act.put (Act.put (Act.put (Act.put (Act.put (Act.put (Act.put (Act.put (Act.put (Act.put a0 (some 11) s11) (some 12) s12) (some 44) s44) (some 45) s45) (some 46) s46) (some 47) s47) (some 48) s48) (some 49) s49) (some 50) s50) (some 51) s51) (some 52) s52) (some 53) s53) ∧ Below B w8 w ∧ (listed.getD 0 false = true → s45 = .pointer (some ⟨g7, 0, none⟩)) ∧ (listed.getD 1 false = true → s46 = .agg (v8 NM)) ∧ (listed.getD 2 false = true → s47 = .int .i64 (q : Int)) ∧ (listed.getD 3 false = true → s48 = .slice mp ml mc) ∧ (listed.getD 4 false = true → s49 = .slice (some ⟨b8, o8, none⟩) sl sc) ∧ (listed.getD 5 false = true → s50 = .slice (some ⟨b8, o8 + 4, none⟩) 4292 (sc - 4)) ∧ (listed.getD 6 false = true → s51 = .tuple #[.agg (v8 X), .int .i64 0]) ∧ (listed.getD 7 false = true → s44 = .tuple #[.agg (v8 X), .int .i64 0]) ∧ (listed.getD 8 false = true → s52 = .agg (v8 X)) ∧ (listed.getD 9 false = true → s53 = .int .i64 0) ∧ (listed.getD 10 false = true → listed.getD 11 false = false → VarS w B s11 24 (zer 32)) ∧ (listed.getD 11 false = true → VarS w B s11 24 X) ∧ (listed.getD 12 false = true → s12 = .int .i64 0)) ?_ ?_ ?_
    all_goals simp only [Act.put, List.setIfInBounds_toArray, List.set_cons_succ, List.set_cons_zero]
    · exact ⟨_, _, _, _, _, _, _, _, _, _, _, _, rfl, (Below.refl B _).drew, (fun h => absurd h (by rw [getD_replicate_false]; decide)), (fun h => absurd h (by rw [getD_replicate_false]; decide)), (fun h => absurd h (by rw [getD_replicate_false]; decide)), (fun h => absurd h (by rw [getD_replicate_false]; decide)), (fun h => absurd h (by rw [getD_replicate_false]; decide)), (fun h => absurd h (by rw [getD_replicate_false]; decide)), (fun h => absurd h (by rw [getD_replicate_false]; decide)), (fun h => absurd h (by rw [getD_replicate_false]; decide)), (fun h => absurd h (by rw [getD_replicate_false]; decide)), (fun h => absurd h (by rw [getD_replicate_false]; decide)), (fun h => absurd h (by rw [getD_replicate_false]; decide)), (fun h => absurd h (by rw [getD_replicate_false]; decide)), (fun h => absurd h (by rw [getD_replicate_false]; decide))⟩
    · intro listed a w i o hls hJ hin ho hi hall hcl
      obtain ⟨s11, s12, s44, s45, s46, s47, s48, s49, s50, s51, s52, s53, rfl, hbW, c0, c1, c2, c3, c4, c5, c6, c7, c8, c9, c10, c11, c12⟩ := hJ
      replace hin : i < 13 := hin
      rcases (by omega : i = 0 ∨ i = 1 ∨ i = 2 ∨ i = 3 ∨ i = 4 ∨ i = 5 ∨ i = 6 ∨ i = 7 ∨ i = 8 ∨ i = 9 ∨ i = 10 ∨ i = 11 ∨ i = 12) with rfl | rfl | rfl | rfl | rfl | rfl | rfl | rfl | rfl | rfl | rfl | rfl | rfl
      · obtain rfl := Option.some.inj ho
        have hsz : 0 < listed.size := by rw [hls]; decide
        have hbw := hbW
        refine inv_val (w' := w) (.pointer (some ⟨g7, 0, none⟩)) rfl rfl (by kernel_rfl) ?_
        exact ⟨s11, s12, s44, (.pointer (some ⟨g7, 0, none⟩)), s46, s47, s48, s49, s50, s51, s52, s53, rfl, hbw, (fun _ => rfl), (fun h => c1 (bit_ne h (by decide))), (fun h => c2 (bit_ne h (by decide))), (fun h => c3 (bit_ne h (by decide))), (fun h => c4 (bit_ne h (by decide))), (fun h => c5 (bit_ne h (by decide))), (fun h => c6 (bit_ne h (by decide))), (fun h => c7 (bit_ne h (by decide))), (fun h => c8 (bit_ne h (by decide))), (fun h => c9 (bit_ne h (by decide))), (fun h h2 => c10 (bit_ne h (by decide)) (bit_ne h2 (by decide))), (fun h => c11 (bit_ne h (by decide))), (fun h => c12 (bit_ne h (by decide)))⟩
      · obtain rfl := Option.some.inj ho
        have hsz : 1 < listed.size := by rw [hls]; decide
        have hdep0 : listed.getD 0 false = true := hall ⟨0, .data⟩ (by simp) (by rfl)
        obtain rfl := c0 hdep0
        have hbw := hbW
        refine inv_val (w' := w) (.agg (v8 NM)) rfl rfl (exec_load_name (.tmp 45) rfl g7 rfl NM TOP h (z7.below hbW (by omega)) hNl) ?_
        exact ⟨s11, s12, s44, (.pointer (some ⟨g7, 0, none⟩)), (.agg (v8 NM)), s47, s48, s49, s50, s51, s52, s53, rfl, hbw, (fun h => c0 (bit_ne h (by decide))), (fun _ => rfl), (fun h => c2 (bit_ne h (by decide))), (fun h => c3 (bit_ne h (by decide))), (fun h => c4 (bit_ne h (by decide))), (fun h => c5 (bit_ne h (by decide))), (fun h => c6 (bit_ne h (by decide))), (fun h => c7 (bit_ne h (by decide))), (fun h => c8 (bit_ne h (by decide))), (fun h => c9 (bit_ne h (by decide))), (fun h h2 => c10 (bit_ne h (by decide)) (bit_ne h2 (by decide))), (fun h => c11 (bit_ne h (by decide))), (fun h => c12 (bit_ne h (by decide)))⟩
      · obtain rfl := Option.some.inj ho
        have hsz : 2 < listed.size := by rw [hls]; decide
        have hbw := hbW
        refine inv_val (w' := w) (.int .i64 (q : Int)) rfl rfl rfl ?_
        exact ⟨s11, s12, s44, s45, s46, (.int .i64 (q : Int)), s48, s49, s50, s51, s52, s53, rfl, hbw, (fun h => c0 (bit_ne h (by decide))), (fun h => c1 (bit_ne h (by decide))), (fun _ => rfl), (fun h => c3 (bit_ne h (by decide))), (fun h => c4 (bit_ne h (by decide))), (fun h => c5 (bit_ne h (by decide))), (fun h => c6 (bit_ne h (by decide))), (fun h => c7 (bit_ne h (by decide))), (fun h => c8 (bit_ne h (by decide))), (fun h => c9 (bit_ne h (by decide))), (fun h h2 => c10 (bit_ne h (by decide)) (bit_ne h2 (by decide))), (fun h => c11 (bit_ne h (by decide))), (fun h => c12 (bit_ne h (by decide)))⟩
      · obtain rfl := Option.some.inj ho
        have hsz : 3 < listed.size := by rw [hls]; decide
        have hbw := hbW
        refine inv_val (w' := w) (.slice mp ml mc) rfl rfl rfl ?_
        exact ⟨s11, s12, s44, s45, s46, s47, (.slice mp ml mc), s49, s50, s51, s52, s53, rfl, hbw, (fun h => c0 (bit_ne h (by decide))), (fun h => c1 (bit_ne h (by decide))), (fun h => c2 (bit_ne h (by decide))), (fun _ => rfl), (fun h => c4 (bit_ne h (by decide))), (fun h => c5 (bit_ne h (by decide))), (fun h => c6 (bit_ne h (by decide))), (fun h => c7 (bit_ne h (by decide))), (fun h => c8 (bit_ne h (by decide))), (fun h => c9 (bit_ne h (by decide))), (fun h h2 => c10 (bit_ne h (by decide)) (bit_ne h2 (by decide))), (fun h => c11 (bit_ne h (by decide))), (fun h => c12 (bit_ne h (by decide)))⟩
      · obtain rfl := Option.some.inj ho
        have hsz : 4 < listed.size := by rw [hls]; decide
        have hbw := hbW
        refine inv_val (w' := w) (.slice (some ⟨b8, o8, none⟩) sl sc) rfl rfl rfl ?_
        exact ⟨s11, s12, s44, s45, s46, s47, s48, (.slice (some ⟨b8, o8, none⟩) sl sc), s50, s51, s52, s53, rfl, hbw, (fun h => c0 (bit_ne h (by decide))), (fun h => c1 (bit_ne h (by decide))), (fun h => c2 (bit_ne h (by decide))), (fun h => c3 (bit_ne h (by decide))), (fun _ => rfl), (fun h => c5 (bit_ne h (by decide))), (fun h => c6 (bit_ne h (by decide))), (fun h => c7 (bit_ne h (by decide))), (fun h => c8 (bit_ne h (by decide))), (fun h => c9 (bit_ne h (by decide))), (fun h h2 => c10 (bit_ne h (by decide)) (bit_ne h2 (by decide))), (fun h => c11 (bit_ne h (by decide))), (fun h => c12 (bit_ne h (by decide)))⟩
      · obtain rfl := Option.some.inj ho
        have hsz : 5 < listed.size := by rw [hls]; decide
        have hdep4 : listed.getD 4 false = true := hall ⟨4, .data⟩ (by simp) (by rfl)
        obtain rfl := c4 hdep4
        have hbw := hbW
        refine inv_val (w' := w) (.slice (some ⟨b8, o8 + 4, none⟩) 4292 (sc - 4)) rfl rfl (by go_simp) ?_
        exact ⟨s11, s12, s44, s45, s46, s47, s48, (.slice (some ⟨b8, o8, none⟩) sl sc), (.slice (some ⟨b8, o8 + 4, none⟩) 4292 (sc - 4)), s51, s52, s53, rfl, hbw, (fun h => c0 (bit_ne h (by decide))), (fun h => c1 (bit_ne h (by decide))), (fun h => c2 (bit_ne h (by decide))), (fun h => c3 (bit_ne h (by decide))), (fun h => c4 (bit_ne h (by decide))), (fun _ => rfl), (fun h => c6 (bit_ne h (by decide))), (fun h => c7 (bit_ne h (by decide))), (fun h => c8 (bit_ne h (by decide))), (fun h => c9 (bit_ne h (by decide))), (fun h h2 => c10 (bit_ne h (by decide)) (bit_ne h2 (by decide))), (fun h => c11 (bit_ne h (by decide))), (fun h => c12 (bit_ne h (by decide)))⟩
      · obtain rfl := Option.some.inj ho
        have hsz : 6 < listed.size := by rw [hls]; decide
        have hdep1 : listed.getD 1 false = true := hall ⟨1, .data⟩ (by simp) (by rfl)
        obtain rfl := c1 hdep1
        have hdep2 : listed.getD 2 false = true := hall ⟨2, .data⟩ (by simp) (by rfl)
        obtain rfl := c2 hdep2
        have hdep3 : listed.getD 3 false = true := hall ⟨3, .data⟩ (by simp) (by rfl)
        obtain rfl := c3 hdep3
        have hdep5 : listed.getD 5 false = true := hall ⟨5, .data⟩ (by simp) (by rfl)
        obtain rfl := c5 hdep5
        refine inv_call 18 #[.agg (v8 NM), .int .i64 (q : Int), .slice mp ml mc, .slice (some ⟨b8, o8 + 4, none⟩) 4292 (sc - 4)] _ rfl rfl (by kernel_rfl) (hbk w (hL.below (zb.trans (hbW.mono (by omega)))) (zb.trans (hbW.mono (by omega)))) ?_
        rintro e w' ⟨rfl, hb⟩
        have hbw : Below B w8 w' := hbW.trans (hb.mono (hsB hbW))
        refine ⟨_, rfl, ?_⟩
        exact ⟨s11, s12, s44, s45, (.agg (v8 NM)), (.int .i64 (q : Int)), (.slice mp ml mc), s49, (.slice (some ⟨b8, o8 + 4, none⟩) 4292 (sc - 4)), (.tuple #[.agg (v8 X), .int .i64 0]), s52, s53, rfl, hbw, (fun h => c0 (bit_ne h (by decide))), (fun h => c1 (bit_ne h (by decide))), (fun h => c2 (bit_ne h (by decide))), (fun h => c3 (bit_ne h (by decide))), (fun h => c4 (bit_ne h (by decide))), (fun h => c5 (bit_ne h (by decide))), (fun _ => rfl), (fun h => c7 (bit_ne h (by decide))), (fun h => c8 (bit_ne h (by decide))), (fun h => c9 (bit_ne h (by decide))), (fun h h2 => (c10 (bit_ne h (by decide)) (bit_ne h2 (by decide))).below hb), (fun h => (c11 (bit_ne h (by decide))).below hb), (fun h => c12 (bit_ne h (by decide)))⟩
      · obtain rfl := Option.some.inj ho
        have hsz : 7 < listed.size := by rw [hls]; decide
        have hdep6 : listed.getD 6 false = true := hall ⟨6, .data⟩ (by simp) (by rfl)
        obtain rfl := c6 hdep6
        have hbw := hbW
        refine inv_val (w' := w) (.tuple #[.agg (v8 X), .int .i64 0]) rfl rfl rfl ?_
        exact ⟨s11, s12, (.tuple #[.agg (v8 X), .int .i64 0]), s45, s46, s47, s48, s49, s50, (.tuple #[.agg (v8 X), .int .i64 0]), s52, s53, rfl, hbw, (fun h => c0 (bit_ne h (by decide))), (fun h => c1 (bit_ne h (by decide))), (fun h => c2 (bit_ne h (by decide))), (fun h => c3 (bit_ne h (by decide))), (fun h => c4 (bit_ne h (by decide))), (fun h => c5 (bit_ne h (by decide))), (fun h => c6 (bit_ne h (by decide))), (fun _ => rfl), (fun h => c8 (bit_ne h (by decide))), (fun h => c9 (bit_ne h (by decide))), (fun h h2 => c10 (bit_ne h (by decide)) (bit_ne h2 (by decide))), (fun h => c11 (bit_ne h (by decide))), (fun h => c12 (bit_ne h (by decide)))⟩
      · obtain rfl := Option.some.inj ho
        have hsz : 8 < listed.size := by rw [hls]; decide
        have hdep7 : listed.getD 7 false = true := hall ⟨7, .data⟩ (by simp) (by rfl)
        obtain rfl := c7 hdep7
        have hbw := hbW
        refine inv_val (w' := w) (.agg (v8 X)) rfl rfl (by kernel_rfl) ?_
        exact ⟨s11, s12, (.tuple #[.agg (v8 X), .int .i64 0]), s45, s46, s47, s48, s49, s50, s51, (.agg (v8 X)), s53, rfl, hbw, (fun h => c0 (bit_ne h (by decide))), (fun h => c1 (bit_ne h (by decide))), (fun h => c2 (bit_ne h (by decide))), (fun h => c3 (bit_ne h (by decide))), (fun h => c4 (bit_ne h (by decide))), (fun h => c5 (bit_ne h (by decide))), (fun h => c6 (bit_ne h (by decide))), (fun h => c7 (bit_ne h (by decide))), (fun _ => rfl), (fun h => c9 (bit_ne h (by decide))), (fun h h2 => c10 (bit_ne h (by decide)) (bit_ne h2 (by decide))), (fun h => c11 (bit_ne h (by decide))), (fun h => c12 (bit_ne h (by decide)))⟩
      · obtain rfl := Option.some.inj ho
        have hsz : 9 < listed.size := by rw [hls]; decide
        have hdep7 : listed.getD 7 false = true := hall ⟨7, .data⟩ (by simp) (by rfl)
        obtain rfl := c7 hdep7
        have hbw := hbW
        refine inv_val (w' := w) (.int .i64 0) rfl rfl (by kernel_rfl) ?_
        exact ⟨s11, s12, (.tuple #[.agg (v8 X), .int .i64 0]), s45, s46, s47, s48, s49, s50, s51, s52, (.int .i64 0), rfl, hbw, (fun h => c0 (bit_ne h (by decide))), (fun h => c1 (bit_ne h (by decide))), (fun h => c2 (bit_ne h (by decide))), (fun h => c3 (bit_ne h (by decide))), (fun h => c4 (bit_ne h (by decide))), (fun h => c5 (bit_ne h (by decide))), (fun h => c6 (bit_ne h (by decide))), (fun h => c7 (bit_ne h (by decide))), (fun h => c8 (bit_ne h (by decide))), (fun _ => rfl), (fun h h2 => c10 (bit_ne h (by decide)) (bit_ne h2 (by decide))), (fun h => c11 (bit_ne h (by decide))), (fun h => c12 (bit_ne h (by decide)))⟩
      · obtain rfl := Option.some.inj ho
        have hsz : 10 < listed.size := by rw [hls]; decide
        have hbw : Below B w8 (w.alloc (.cells (v8 (zer 32)) 24)) := hbW.alloc (hsB hbW) _
        refine inv_val (.pointer (some ⟨w.heap.size, 0, none⟩)) (w' := w.alloc (.cells (v8 (zer 32)) 24)) rfl rfl (by kernel_rfl) ?_
        exact ⟨(.pointer (some ⟨w.heap.size, 0, none⟩)), s12, s44, s45, s46, s47, s48, s49, s50, s51, s52, s53, rfl, hbw, (fun h => c0 (bit_ne h (by decide))), (fun h => c1 (bit_ne h (by decide))), (fun h => c2 (bit_ne h (by decide))), (fun h => c3 (bit_ne h (by decide))), (fun h => c4 (bit_ne h (by decide))), (fun h => c5 (bit_ne h (by decide))), (fun h => c6 (bit_ne h (by decide))), (fun h => c7 (bit_ne h (by decide))), (fun h => c8 (bit_ne h (by decide))), (fun h => c9 (bit_ne h (by decide))), (fun _ _ => VarS.new w B (hsB hbW) _ _), (fun h => absurd (hcl 11 _ rfl (bit_ne h (by decide)) ⟨10, .data⟩ (by simp) rfl) (by rw [hi]; decide)), (fun h => c12 (bit_ne h (by decide)))⟩
      · obtain rfl := Option.some.inj ho
        have hsz : 11 < listed.size := by rw [hls]; decide
        have hdep10 : listed.getD 10 false = true := hall ⟨10, .data⟩ (by simp) (by rfl)
        have hdep8 : listed.getD 8 false = true := hall ⟨8, .data⟩ (by simp) (by rfl)
        obtain rfl := c8 hdep8
        obtain ⟨bV, rfl, rV, hbV⟩ := c10 hdep10 hi
        refine inv_store 24 (.tmp 11) (.tmp 52) rfl rfl rfl rfl bV X rfl rfl 24 (zer 32) rV (id_info hXl) ((zer_len 32).trans hXl.symm) ?_
        have hbw : Below B w8 (w.setRow bV (v8 X)) := below_setRow hbW hbV _
        exact ⟨(.pointer (some ⟨bV, 0, none⟩)), s12, s44, s45, s46, s47, s48, s49, s50, s51, (.agg (v8 X)), s53, rfl, hbw, (fun h => c0 (bit_ne h (by decide))), (fun h => c1 (bit_ne h (by decide))), (fun h => c2 (bit_ne h (by decide))), (fun h => c3 (bit_ne h (by decide))), (fun h => c4 (bit_ne h (by decide))), (fun h => c5 (bit_ne h (by decide))), (fun h => c6 (bit_ne h (by decide))), (fun h => c7 (bit_ne h (by decide))), (fun h => c8 (bit_ne h (by decide))), (fun h => c9 (bit_ne h (by decide))), (fun _ h2 => absurd (bit_on hsz) (by rw [h2]; decide)), (fun _ => ⟨bV, rfl, rV.setRow _, hbV⟩), (fun h => c12 (bit_ne h (by decide)))⟩
      · obtain rfl := Option.some.inj ho
        have hsz : 12 < listed.size := by rw [hls]; decide
        have hdep9 : listed.getD 9 false = true := hall ⟨9, .data⟩ (by simp) (by rfl)
        obtain rfl := c9 hdep9
        have hbw := hbW
        refine inv_val (w' := w) (.int .i64 0) rfl rfl rfl ?_
        exact ⟨s11, (.int .i64 0), s44, s45, s46, s47, s48, s49, s50, s51, s52, (.int .i64 0), rfl, hbw, (fun h => c0 (bit_ne h (by decide))), (fun h => c1 (bit_ne h (by decide))), (fun h => c2 (bit_ne h (by decide))), (fun h => c3 (bit_ne h (by decide))), (fun h => c4 (bit_ne h (by decide))), (fun h => c5 (bit_ne h (by decide))), (fun h => c6 (bit_ne h (by decide))), (fun h => c7 (bit_ne h (by decide))), (fun h => c8 (bit_ne h (by decide))), (fun h => c9 (bit_ne h (by decide))), (fun h h2 => c10 (bit_ne h (by decide)) (bit_ne h2 (by decide))), (fun h => c11 (bit_ne h (by decide))), (fun _ => rfl)⟩
    · intro listed a w hall hJ
      obtain ⟨s11, s12, s44, s45, s46, s47, s48, s49, s50, s51, s52, s53, rfl, hbW, c0, c1, c2, c3, c4, c5, c6, c7, c8, c9, c10, c11, c12⟩ := hJ
      obtain rfl := c0 (hall 0 (by decide))
      obtain rfl := c1 (hall 1 (by decide))
      obtain rfl := c2 (hall 2 (by decide))
      obtain rfl := c3 (hall 3 (by decide))
      obtain rfl := c4 (hall 4 (by decide))
      obtain rfl := c5 (hall 5 (by decide))
      obtain rfl := c6 (hall 6 (by decide))
      obtain rfl := c7 (hall 7 (by decide))
      obtain rfl := c8 (hall 8 (by decide))
      obtain rfl := c9 (hall 9 (by decide))
      obtain ⟨b11, rfl, r11, hb11⟩ := c11 (hall 11 (by decide))
      obtain rfl := c12 (hall 12 (by decide))
      have u7 := z7.below hbW (by omega)
      have ub := zb.trans (hbW.mono (by omega))
      clear z7 zb hall hB hsB c0 c1 c2 c3 c4 c5 c6 c7 c8 c9 c12 hbk
      have ur := r11
      clear r11
      have hu7 := u7.lt
      go_upto_region 13 with fail
      refine region_tail 8 (by kernel_rfl) (by kernel_rfl) (by kernel_rfl) ?_
      apply Exists.intro
      refine ⟨fun ι _ W hb hc => ?_, fun w9 hb9 => ?_⟩
      · have t7 : ∀ i, Row (W i) g7 80 (kc NM (h : Int) TOP) := fun i => u7.below (hb i) u7.lt
        have tr : ∀ i, Row (W i) b11 24 (v8 X) := fun i => ur.below (hb i) ur.lt
        have tB : ∀ i, Below w0.heap.size w0 (W i) := fun i => ub.trans ((hb i).mono ub.size)
        simp only [List.take_succ_cons, List.take_zero]
        refine q_load_row 80 (.tmp 7) (by rfl) (by rfl) g7 (by rfl) 80 _ _ t7 Tryd.underlying80 rfl (key_info hNl hTl) ?_
        simp only [Act.put, List.setIfInBounds_toArray, List.set_cons_succ, List.set_cons_zero]
        go_big_quiet_step (fail)
        refine q_load_row 24 (.tmp 11) (by rfl) (by rfl) b11 (by rfl) 24 _ _ tr Tryd.underlying24 rfl (id_info hXl) ?_
        simp only [Act.put, List.setIfInBounds_toArray, List.set_cons_succ, List.set_cons_zero]
        iterate 2 (go_big_quiet_step (fail))
        go_big_quiet_step ((go_at_call 54; exact (hcm _ (hL.below (tB _)) (tB _)).mono (fun e w' ⟨he, hw⟩ => ⟨he, hc _ _ hw⟩)))
        go_big_quiet_step (fail)
        refine q_load_top (.tmp 63) (by rfl) (by rfl) g7 (by rfl) NM TOP h t7 hNl hTl ?_
        simp only [Act.put, List.setIfInBounds_toArray, List.set_cons_succ, List.set_cons_zero]
        exact wpQuiet_nil rfl
      · simp only [List.drop_succ_cons, List.drop_zero]
        go_wp2
        go_ret
        exact ⟨rfl, ub.trans (hb9.mono ub.size)⟩
end

end Go.Proofs.YtoebnkepeledmaaDoor
