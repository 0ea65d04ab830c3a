/- The chapter's example: known answers true, and turns no old memory, where firstState and roundWords hold what the text lays. -/
import Derived.Test.YtjefmnoffekeoaaDoorText
import Derived.Lib.SlBytesConst
namespace Go.Proofs.YtjefmnoffekeoaaDoor
open Go.RowKit

def abcText : List Int := [98, 97, 55, 56, 49, 54, 98, 102, 56, 102, 48, 49, 99, 102, 101, 97, 52, 49, 52, 49, 52, 48, 100, 101, 53, 100, 97, 101, 50, 50, 50, 51, 98, 48, 48, 51, 54, 49, 97, 51, 57, 54, 49, 55, 55, 97, 57, 99, 98, 52, 49, 48, 102, 102, 54, 49, 102, 50, 48, 48, 49, 53, 97, 100]
theorem abc_text : textS (shaS [97, 98, 99]) = abcText := by kernel_rfl

theorem in8_of_all {l : List Int} (h : ∀ x ∈ l, 0 ≤ x ∧ x < 256) : In8 l := fun j => by
  unfold gi
  by_cases hj : j < l.length
  · have : l.getD j 0 = l[j] := by simp [hj]
    rw [this]; exact h _ (List.getElem_mem hj)
  · have : l.getD j 0 = 0 := by simp [List.getElem?_eq_none (show l.length ≤ j by omega)]
    rw [this]; omega
theorem all_spl {l cs : List Int} (off : Nat) (h : ∀ x ∈ l, 0 ≤ x ∧ x < 256) (hc : ∀ x ∈ cs, 0 ≤ x ∧ x < 256) : ∀ x ∈ spl l off cs, 0 ≤ x ∧ x < 256 := fun x hx => by
  unfold spl at hx
  rcases List.mem_append.1 hx with hx | hx
  · exact h x (List.mem_of_mem_take hx)
  · rcases List.mem_append.1 hx with hx | hx
    · exact hc x hx
    · exact h x (List.mem_of_mem_drop hx)
theorem all_wbytes (x : Int) : ∀ y ∈ wbytes x, 0 ≤ y ∧ y < 256 := fun y hy => by
  simp only [wbytes, List.mem_cons, List.not_mem_nil, or_false] at hy
  rcases hy with rfl | rfl | rfl | rfl <;> omega
theorem all_idN (s : S8) : ∀ k, ∀ x ∈ idN s k, 0 ≤ x ∧ x < 256
  | 0 => fun x hx => by have := List.eq_of_mem_replicate hx; omega
  | k + 1 => all_spl _ (all_idN s k) (all_wbytes _)
theorem shaS_length (bs : List Int) : (shaS bs).length = 32 := idN_length _ 8 (by omega)
theorem shaS_in8 (bs : List Int) : In8 (shaS bs) := in8_of_all (all_idN _ 8)

set_option maxRecDepth 20000 in
set_option maxHeartbeats 1000000 in
theorem known_any (w : World) (hl : Laid w) :
    Calls Tryd.prog 8 #[] w fun e w' => e = .returned (.bool true) ∧ Below w.heap.size w w' := by
  have hcv := Lib.run_convert_bytes_const (P := Tryd.prog) w 22 5 #[.int .u8 97, .int .u8 98, .int .u8 99] 3 3 Tryd.underlying22 Tryd.underlying5
  have b0 : Below w.heap.size w (w.alloc (.cells #[.int .u8 97, .int .u8 98, .int .u8 99] 5 (3, 4))) := (Below.refl _ _).alloc (Nat.le_refl _) _
  have hby : Bytes (w.alloc (.cells #[.int .u8 97, .int .u8 98, .int .u8 99] 5 (3, 4))) (some ⟨w.heap.size, 0, none⟩) [97, 98, 99] := fun _ => ⟨_, _, rfl, fun j hj => by
    rw [World.cell?_alloc_mark]
    simp only [List.length_cons, List.length_nil] at hj
    obtain rfl | rfl | rfl : j = 0 ∨ j = 1 ∨ j = 2 := by omega
    all_goals rfl⟩
  have hs1 := sum_any [97, 98, 99] (some ⟨w.heap.size, 0, none⟩) 3 3 _ rfl (by omega) (by omega) (hl.below b0) hby
  have htext : ∀ wx, Calls Tryd.prog 12 #[.agg (v8 (shaS [97, 98, 99]))] wx fun e w' => e = .returned (.string ⟨#[98, 97, 55, 56, 49, 54, 98, 102, 56, 102, 48, 49, 99, 102, 101, 97, 52, 49, 52, 49, 52, 48, 100, 101, 53, 100, 97, 101, 50, 50, 50, 51, 98, 48, 48, 51, 54, 49, 97, 51, 57, 54, 49, 55, 55, 97, 57, 99, 98, 52, 49, 48, 102, 102, 54, 49, 102, 50, 48, 48, 49, 53, 97, 100]⟩) ∧ Below wx.heap.size wx w' := fun wx => by
    have := text_any (shaS [97, 98, 99]) wx (shaS_length _) (shaS_in8 _)
    rw [abc_text] at this; exact this
  go_enter Tryd.func8, Tryd.ntmps8
  go_wp2_with (first | (go_at_call 9; refine Calls.mono hs1 ?_; rintro e w1 ⟨rfl, hb1⟩) | (go_at_call 12; refine Calls.mono (htext _) ?_; rintro e w2 ⟨rfl, hb2⟩))
  go_ret
  exact ⟨rfl, (b0.trans (hb1.mono (by simp))).trans (hb2.mono (by have := hb1.size; simp at this; omega))⟩
end Go.Proofs.YtjefmnoffekeoaaDoor
