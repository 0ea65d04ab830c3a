/- The reference's words: the 64 numbers of rounds; no old memory turns. No condition. -/
import Derived.Test.YtoebnkepeledmaaDoorSum
namespace Go.Proofs.YtoebnkepeledmaaDoor
open Go.RowKit

theorem kWords_length : kWords.length = 64 := rfl
theorem info43 {l : List Int} (h : l.length = 64) : (Tryd.prog.info? 98).map (·.size) = some (v32 l).size := by rw [v32_size, h]; kernel_rfl

set_option maxRecDepth 20000 in
set_option maxHeartbeats 1000000 in
theorem words_any (w : World) :
    Calls Tryd.prog 60 #[] w fun e w' => e = .returned (.agg (v32 kWords)) ∧ Below w.heap.size w w' := by
  have hold : (v32 zeros64).size = (v32 kWords).size := by rw [v32_size, v32_size]; rfl
  go_enter Tryd.func60, Tryd.ntmps60
  go_wp2_with (refine store_row0 98 (.tmp 0) (.tmp 1) (by rfl) (by rfl) (by rfl) w.heap.size (v32 kWords) (by rfl) (by rfl) 98 (v32 zeros64) (Row.new w 98 _) (info43 kWords_length) hold (v32_one _) ?_)
  exact bodyPost_ret (results_cell_row Tryd.results60 _ _ w.heap.size 98 (v32 kWords) (0, 0) _ rfl ((Row.new w 98 (v32 zeros64)).setRow _) Tryd.underlying98 rfl (info43 kWords_length)) rfl ⟨rfl, below_setRow ((Below.refl _ _).alloc (Nat.le_refl _) _) (Nat.le_refl _) _⟩
end Go.Proofs.YtoebnkepeledmaaDoor
