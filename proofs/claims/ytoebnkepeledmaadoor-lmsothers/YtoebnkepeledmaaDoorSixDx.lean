/- The reference's Check of lms: a signature of another length, or another height. No old memory turns. -/
import Derived.Test.YtoebnkepeledmaaDoorSixCx
namespace Go.Proofs.YtoebnkepeledmaaDoor
open Go Go.RowKit

set_option maxRecDepth 20000 in
set_option maxHeartbeats 2000000 in
theorem sixCheck_len (P : List Int) (pp mp sp : Option Addr) (pl pc ml mc sl sc : Nat) (w0 : World) (hPl : P.length = pl) (hpc : pl ≤ pc) (hPb : Bytes w0 pp P) (hPr : ∀ x ∈ P, 0 ≤ x ∧ x < 256) (h : Nat) (hk : keyOk P) (hh : num4 P 0 = (h : Int)) (hne : sl ≠ 4300 + 32 * h) :
    Calls Tryd.prog 28 #[.slice pp pl pc, .slice mp ml mc, .slice sp sl sc] w0 fun e w' => e = .returned (.int .i64 12) ∧ Below w0.heap.size w0 w' := by
  obtain ⟨hP56, g1, g2, g3⟩ := hk
  have h56 : pl = 56 := by omega
  have hget := fun wx hb => six_get_any P pp pl pc wx (by omega) hPl hb hPr
  obtain ⟨b, o, rfl, hc0⟩ := hPb (by omega)
  have hget4 := fun wx (hb : Bytes wx (some ⟨b, o, none⟩) P) => six_get_any (P.drop 4) (some ⟨b, o + 4, none⟩) (pl - 4) (pc - 4) wx (by rw [List.length_drop]; omega) (by rw [List.length_drop]; omega) (Bytes.drop hb 4) (fun x hx => hPr x (List.mem_of_mem_drop hx))
  simp only [get_at] at hget4
  have h1 : 1 ≤ h := by omega
  have h5 : h ≤ 5 := by omega
  rw [hh] at hget
  rw [g3] at hget4
  have n1 : ¬ ((h : Int) < 1) := by omega
  have n2 : ¬ ((h : Int) > 5) := by omega
  clear hh g1 g2 g3 hc0
  subst h56
  have hneb : ((sl : Int) != 4300 + 32 * (h : Int)) = true := by simp; omega
  go_enter Tryd.func28, Tryd.ntmps28
  go_upto_region 4 with (first | (go_at_call 55; (with_reducible refine Calls.mono (hget _ hPb) ?_); rintro e w2 ⟨rfl, hb2⟩))
  have hPb2 := hPb.below hb2
  go_upto_region 6 with (first | (go_at_call 55; (with_reducible refine Calls.mono (hget4 _ hPb2) ?_); rintro e w3 ⟨rfl, hb3⟩))
  have hb3' := hb2.trans (hb3.mono hb2.size)
  clear hb2 hb3 hPb2 hget hget4
  go_wp2
  go_ret
  exact ⟨rfl, hb3'⟩
set_option maxRecDepth 20000 in
set_option maxHeartbeats 2000000 in
theorem sixCheck_other (P : List Int) (pp mp sp : Option Addr) (pl pc ml mc sl sc : Nat) (w0 : World) (hPl : P.length = pl) (hpc : pl ≤ pc) (hPb : Bytes w0 pp P) (hPr : ∀ x ∈ P, 0 ≤ x ∧ x < 256) (sig : List Int) (hsl : sig.length = sl) (hsc : sl ≤ sc) (hsb : Bytes w0 sp sig) (hsr : ∀ x ∈ sig, 0 ≤ x ∧ x < 256) (h : Nat) (hk : keyOk P) (hh : num4 P 0 = (h : Int)) (hne : sl = 4300 + 32 * h) (hx : num4 sig 4296 ≠ (h : Int)) :
    Calls Tryd.prog 28 #[.slice pp pl pc, .slice mp ml mc, .slice sp sl sc] w0 fun e w' => e = .returned (.int .i64 12) ∧ Below w0.heap.size w0 w' := by
  obtain ⟨hP56, g1, g2, g3⟩ := hk
  have h56 : pl = 56 := by omega
  have hget := fun wx hb => six_get_any P pp pl pc wx (by omega) hPl hb hPr
  obtain ⟨b, o, rfl, hc0⟩ := hPb (by omega)
  have hget4 := fun wx (hb : Bytes wx (some ⟨b, o, none⟩) P) => six_get_any (P.drop 4) (some ⟨b, o + 4, none⟩) (pl - 4) (pc - 4) wx (by rw [List.length_drop]; omega) (by rw [List.length_drop]; omega) (Bytes.drop hb 4) (fun x hx => hPr x (List.mem_of_mem_drop hx))
  simp only [get_at] at hget4
  have h1 : 1 ≤ h := by omega
  have h5 : h ≤ 5 := by omega
  rw [hh] at hget
  rw [g3] at hget4
  have n1 : ¬ ((h : Int) < 1) := by omega
  have n2 : ¬ ((h : Int) > 5) := by omega
  clear hh g1 g2 g3 hc0
  subst h56
  obtain ⟨b8, o8, rfl, hc8⟩ := hsb (by omega)
  have hg96 := fun wx (hb : Bytes wx (some ⟨b8, o8, none⟩) sig) => six_get_any (sig.drop 4296) (some ⟨b8, o8 + 4296, none⟩) (sl - 4296) (sc - 4296) wx (by rw [List.length_drop]; omega) (by rw [List.length_drop]; omega) (Bytes.drop hb 4296) (fun x hx => hsr x (List.mem_of_mem_drop hx))
  simp only [get_at] at hg96
  have hneb : ((sl : Int) != 4300 + 32 * (h : Int)) = false := by simp; omega
  have l96 : (4296 : Int) ≤ (sl : Int) := by omega
  have l97 : (sl : Int) ≤ (sc : Int) := by omega
  have l98 : ¬ sc = 4296 := by omega
  clear hc8 hne
  generalize num4 sig 4296 = x96 at *
  have hx6 : (x96 != (h : Int)) = true := by simp [hx]
  go_enter Tryd.func28, Tryd.ntmps28
  go_upto_region 4 with (first | (go_at_call 55; (with_reducible refine Calls.mono (hget _ hPb) ?_); rintro e w2 ⟨rfl, hb2⟩))
  have hPb2 := hPb.below hb2
  go_upto_region 6 with (first | (go_at_call 55; (with_reducible refine Calls.mono (hget4 _ hPb2) ?_); rintro e w3 ⟨rfl, hb3⟩))
  have hb3' := hb2.trans (hb3.mono hb2.size)
  clear hb2 hb3 hPb2 hget hget4
  have hsb3 := hsb.below hb3'
  go_wp2_with (first | (go_at_call 55; (with_reducible refine Calls.mono (hg96 _ hsb3) ?_); rintro e w4 ⟨rfl, hb4⟩))
  go_ret
  exact ⟨rfl, hb3'.trans (hb4.mono hb3'.size)⟩
end Go.Proofs.YtoebnkepeledmaaDoor
