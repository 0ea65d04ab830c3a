/- DiskPlays returns true and turns no old memory, for any number and any calls. No condition. -/
import Derived.Test.YtmomljmjlknolaaPlays1
namespace Go.Proofs.Ytmomljmjlknolaa
open Go Go.RowKit
theorem plays_any (room : Int) (cs : List Cl) (a : Option Addr) (cap : Nat) (w : World) (hC : Clls w a cs) (hl : cs.length ≤ 9223372036854775807) :
    Calls Try.prog 3 #[.int .i64 room, .slice a cs.length cap] w fun e w' => e = .returned (.bool true) ∧ Below w.heap.size w w' := by
  by_cases h : 1 ≤ room ∧ room ≤ 16777216
  · exact plays_walk room cs a cap w h hC hl
  · exact plays_bad room _ _ a w h
end Go.Proofs.Ytmomljmjlknolaa
