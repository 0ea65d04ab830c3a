/- The reference's Check of lms: a key that is none. No old memory turns. -/
import Derived.Test.YtoebnkepeledmaaDoorSixGx
import Derived.Test.YtoebnkepeledmaaDoorGl
namespace Go.Proofs.YtoebnkepeledmaaDoor
open Go Go.RowKit

theorem get_at (P : List Int) (k : Nat) : num4 (P.drop k) 0 = num4 P k := by
  have g : ∀ j, gi (P.drop k) j = gi P (k + j) := fun j => by simp [gi, List.getD, List.getElem?_drop]
  simp only [num4, g, Nat.add_zero, Nat.zero_add]
set_option maxRecDepth 20000 in
set_option maxHeartbeats 1000000 in
theorem sixCheck_size (pp mp sp : Option Addr) (pl pc ml mc sl sc : Nat) (w0 : World) (hne : pl ≠ 56) :
    Calls Tryd.prog 28 #[.slice pp pl pc, .slice mp ml mc, .slice sp sl sc] w0 fun e w' => e = .returned (.int .i64 11) ∧ Below w0.heap.size w0 w' := by
  have hI : ((pl : Int) != 56) = true := by simp; omega
  go_enter Tryd.func28, Tryd.ntmps28
  go_wp2
  go_ret
  exact ⟨rfl, Below.refl _ _⟩
set_option maxRecDepth 20000 in
set_option maxHeartbeats 1000000 in
theorem sixCheck_low (P : List Int) (pp mp sp : Option Addr) (pl pc ml mc sl sc : Nat) (w0 : World) (hPl : P.length = pl) (hpc : pl ≤ pc) (hPb : Bytes w0 pp P) (hPr : ∀ x ∈ P, 0 ≤ x ∧ x < 256) (h56 : pl = 56) (hx : num4 P 0 < 1) :
    Calls Tryd.prog 28 #[.slice pp pl pc, .slice mp ml mc, .slice sp sl sc] w0 fun e w' => e = .returned (.int .i64 11) ∧ Below w0.heap.size w0 w' := by
  have hget := fun wx hb => six_get_any P pp pl pc wx (by omega) hPl hb hPr
  generalize num4 P 0 = x0 at *
  subst h56
  go_enter Tryd.func28, Tryd.ntmps28
  go_upto_region 4 with (first | (go_at_call 55; (with_reducible refine Calls.mono (hget _ hPb) ?_); rintro e w2 ⟨rfl, hb2⟩))
  go_wp2
  go_ret
  exact ⟨rfl, hb2⟩
set_option maxRecDepth 20000 in
set_option maxHeartbeats 1000000 in
theorem sixCheck_high (P : List Int) (pp mp sp : Option Addr) (pl pc ml mc sl sc : Nat) (w0 : World) (hPl : P.length = pl) (hpc : pl ≤ pc) (hPb : Bytes w0 pp P) (hPr : ∀ x ∈ P, 0 ≤ x ∧ x < 256) (h56 : pl = 56) (h1 : ¬ num4 P 0 < 1) (hx : num4 P 0 > 5) :
    Calls Tryd.prog 28 #[.slice pp pl pc, .slice mp ml mc, .slice sp sl sc] w0 fun e w' => e = .returned (.int .i64 11) ∧ Below w0.heap.size w0 w' := by
  have hget := fun wx hb => six_get_any P pp pl pc wx (by omega) hPl hb hPr
  generalize num4 P 0 = x0 at *
  subst h56
  go_enter Tryd.func28, Tryd.ntmps28
  go_upto_region 4 with (first | (go_at_call 55; (with_reducible refine Calls.mono (hget _ hPb) ?_); rintro e w2 ⟨rfl, hb2⟩))
  go_wp2
  go_ret
  exact ⟨rfl, hb2⟩
set_option maxRecDepth 20000 in
set_option maxHeartbeats 1000000 in
theorem sixCheck_type (P : List Int) (pp mp sp : Option Addr) (pl pc ml mc sl sc : Nat) (w0 : World) (hPl : P.length = pl) (hpc : pl ≤ pc) (hPb : Bytes w0 pp P) (hPr : ∀ x ∈ P, 0 ≤ x ∧ x < 256) (h56 : pl = 56) (h1 : ¬ num4 P 0 < 1) (h2 : ¬ num4 P 0 > 5) (hx : num4 P 4 ≠ 2) :
    Calls Tryd.prog 28 #[.slice pp pl pc, .slice mp ml mc, .slice sp sl sc] w0 fun e w' => e = .returned (.int .i64 11) ∧ Below w0.heap.size w0 w' := by
  have hget := fun wx hb => six_get_any P pp pl pc wx (by omega) hPl hb hPr
  obtain ⟨b, o, rfl, hc0⟩ := hPb (by omega)
  have hget4 := fun wx (hb : Bytes wx (some ⟨b, o, none⟩) P) => six_get_any (P.drop 4) (some ⟨b, o + 4, none⟩) (pl - 4) (pc - 4) wx (by rw [List.length_drop]; omega) (by rw [List.length_drop]; omega) (Bytes.drop hb 4) (fun x hx => hPr x (List.mem_of_mem_drop hx))
  simp only [get_at] at hget4
  generalize num4 P 4 = x4 at *
  have hx4 : (x4 != 2) = true := by simp [hx]
  generalize num4 P 0 = x0 at *
  subst h56
  go_enter Tryd.func28, Tryd.ntmps28
  go_upto_region 4 with (first | (go_at_call 55; (with_reducible refine Calls.mono (hget _ hPb) ?_); rintro e w2 ⟨rfl, hb2⟩))
  go_wp2_with (first | (go_at_call 55; (with_reducible refine Calls.mono (hget4 _ (hPb.below hb2)) ?_); rintro e w3 ⟨rfl, hb3⟩))
  go_ret
  exact ⟨rfl, hb2.trans (hb3.mono hb2.size)⟩
theorem sixCheck_key (P : List Int) (pp mp sp : Option Addr) (pl pc ml mc sl sc : Nat) (w0 : World) (hPl : P.length = pl) (hpc : pl ≤ pc) (hPb : Bytes w0 pp P) (hPr : ∀ x ∈ P, 0 ≤ x ∧ x < 256) (hk : ¬ keyOk P) :
    Calls Tryd.prog 28 #[.slice pp pl pc, .slice mp ml mc, .slice sp sl sc] w0 fun e w' => e = .returned (.int .i64 11) ∧ Below w0.heap.size w0 w' := by
  by_cases hlen : pl = 56
  · by_cases h1 : num4 P 0 < 1
    · exact sixCheck_low P pp mp sp pl pc ml mc sl sc w0 hPl hpc hPb hPr hlen h1
    · by_cases h2 : num4 P 0 > 5
      · exact sixCheck_high P pp mp sp pl pc ml mc sl sc w0 hPl hpc hPb hPr hlen h1 h2
      · by_cases h3 : num4 P 4 = 2
        · exact absurd ⟨by omega, by omega, by omega, h3⟩ hk
        · exact sixCheck_type P pp mp sp pl pc ml mc sl sc w0 hPl hpc hPb hPr hlen h1 h2 h3
  · exact sixCheck_size pp mp sp pl pc ml mc sl sc w0 hlen
end Go.Proofs.YtoebnkepeledmaaDoor
