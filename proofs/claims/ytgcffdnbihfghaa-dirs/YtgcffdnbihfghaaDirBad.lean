/- Entries that are no directory's: what Dir answers. No old memory turns. -/
import Derived.Test.YtgcffdnbihfghaaEnts
namespace Go.Proofs.Ytgcffdnbihfghaa
open Go Go.RowKit
set_option maxRecDepth 20000 in
set_option maxHeartbeats 1000000 in
theorem dir_bad (E : List Ent) (n : Nat) (p : Option Addr) (cap : Nat) (w : World) (hl : E.length = n) (hE : Ents w p E) (hok : EntsOk E) (hn : n ≤ 1000000) (hz : chkE E ≠ 0) :
    Calls Try.prog 22 #[.slice p n cap] w fun e w' => e = .returned (.tuple #[.slice none 0 0, .int .i64 (chkE E)]) ∧ Below w.heap.size w w' := by
  have hck := fun wx h => entries_check E n p cap wx hl h hok hn
  have hck := hck w hE
  generalize chkE E = z at *
  have hzb : (z == 0) = false := by simp [hz]
  clear hE hok hl
  go_enter Try.func22, Try.ntmps22
  go_wp2_with (go_at_call 41; (with_reducible refine Calls.mono hck ?_); rintro e w2 ⟨rfl, hb2⟩)
  go_ret2
  exact ⟨rfl, hb2⟩
end Go.Proofs.Ytgcffdnbihfghaa
