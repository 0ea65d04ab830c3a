/- The chapter's example: a signature is as long as it must be. No old memory turns. -/
import Derived.Test.YtoebnkepeledmaaDoorOtsG
namespace Go.Proofs.YtoebnkepeledmaaDoor
open Go.RowKit

set_option maxRecDepth 20000 in
set_option maxHeartbeats 1000000 in
theorem known5_any (S : List Int → List Int) (hS : Hash S) (w : World) (hL : Laid w) :
    Calls Tryd.prog 14 #[] w fun e w' => e = .returned (.bool true) ∧ Below w.heap.size w w' := by
  have z16 : ∀ wx, (zeroValue 22).run Tryd.prog wx = .ok (.agg (v8 (zer 16))) wx := fun wx => by kernel_rfl
  have r0 : Row (World.alloc w (.cells (v8 (zer 16)) 22)) w.heap.size 22 (v8 (zer 16)) := Row.new _ _ _
  have b0 : Below w.heap.size w (World.alloc w (.cells (v8 (zer 16)) 22)) := (Below.refl _ _).alloc (Nat.le_refl _) _
  have hsg := Sign_any S hS (zer 16) (zer 32) [] 0 none 0 0 (World.alloc w (.cells (v8 (zer 16)) 22)) (hL.below b0) (zer_len 16) (zer_len 32) rfl (by omega) (Bytes.nil _ _)
  generalize sigL S (zer 16 ++ n4 0) (zer 32) [] = SG at *
  go_enter Tryd.func14, Tryd.ntmps14
  go_wp2_with (first | (refine wpList_load_row (by rfl) 22 (.tmp 1) (by rfl) w.heap.size (by rfl) 22 (v8 (zer 16)) (0, 0) _ r0 Tryd.underlying22 rfl (by kernel_rfl) ?_) | (go_at_call 17; refine Calls.mono hsg ?_; rintro e w3 ⟨g, rfl, _, _, hb3⟩))
  go_ret
  exact ⟨rfl, b0.trans (hb3.mono (by simp))⟩
end Go.Proofs.YtoebnkepeledmaaDoor
