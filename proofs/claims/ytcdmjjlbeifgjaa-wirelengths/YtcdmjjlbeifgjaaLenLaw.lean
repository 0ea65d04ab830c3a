/- WireLengths returns true and turns no old memory, whatever the message. -/
import Derived.Test.YtcdmjjlbeifgjaaLenA
import Derived.Test.YtcdmjjlbeifgjaaLenB
namespace Go.Proofs.Ytcdmjjlbeifgjaa
open Go.RowKit

theorem lengths_law (m : M) (lp dp : Option Addr) (lc dc : Nat) (w : World) (hF : Fld w m lp lc dp dc) (h1 : m.list.length ≤ 9223372036854775807) (h2 : m.data.length ≤ 9223372036854775807) :
    Calls Try.prog 8 #[.agg (mc m lp lc dp dc)] w fun e w' => e = .returned (.bool true) ∧ Below w.heap.size w w' := by
  by_cases hs : m.data.length < 8000 ∧ m.list.length < 50
  · have hb := good_kind m
    rcases (by omega : (goodM m).kind = 1 ∨ (goodM m).kind = 2 ∨ (goodM m).kind = 3 ∨ (goodM m).kind = 4 ∨ (goodM m).kind = 5 ∨ (goodM m).kind = 6 ∨ (goodM m).kind = 7 ∨ (goodM m).kind = 8 ∨ (goodM m).kind = 9 ∨ (goodM m).kind = 10 ∨ (goodM m).kind = 11 ∨ (goodM m).kind = 12) with h | h | h | h | h | h | h | h | h | h | h | h
    · exact len1 m lp dp lc dc w hF hs.2 hs.1 h
    · exact len2 m lp dp lc dc w hF hs.2 hs.1 h
    · exact len3 m lp dp lc dc w hF hs.2 hs.1 h
    · exact len4 m lp dp lc dc w hF hs.2 hs.1 h
    · exact len5 m lp dp lc dc w hF hs.2 hs.1 h
    · exact len6 m lp dp lc dc w hF hs.2 hs.1 h
    · exact len7 m lp dp lc dc w hF hs.2 hs.1 h
    · exact len8 m lp dp lc dc w hF hs.2 hs.1 h
    · exact len9 m lp dp lc dc w hF hs.2 hs.1 h
    · exact len10 m lp dp lc dc w hF hs.2 hs.1 h
    · exact len11 m lp dp lc dc w hF hs.2 hs.1 h
    · exact len12 m lp dp lc dc w hF hs.2 hs.1 h
  · exact early8 m lp dp lc dc w hF h1 h2 hs
end Go.Proofs.Ytcdmjjlbeifgjaa
