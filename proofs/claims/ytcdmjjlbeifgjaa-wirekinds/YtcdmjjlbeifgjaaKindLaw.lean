/- WireKinds returns true and turns no old memory, whatever the message. -/
import Derived.Test.YtcdmjjlbeifgjaaKindA
import Derived.Test.YtcdmjjlbeifgjaaKindB
import Derived.Test.YtcdmjjlbeifgjaaKindC
import Derived.Test.YtcdmjjlbeifgjaaKindD
import Derived.Test.YtcdmjjlbeifgjaaKindE
import Derived.Test.YtcdmjjlbeifgjaaKindF
import Derived.Test.YtcdmjjlbeifgjaaKindG
namespace Go.Proofs.Ytcdmjjlbeifgjaa
open Go.RowKit

theorem kinds_law (m : M) (lp dp : Option Addr) (lc dc : Nat) (w : World) (hF : Fld w m lp lc dp dc) (h1 : m.list.length ≤ 9223372036854775807) (h2 : m.data.length ≤ 9223372036854775807) (hbk : ∀ x ∈ m.key, 0 ≤ x ∧ x < 256) (hbd : ∀ x ∈ m.data, 0 ≤ x ∧ x < 256) :
    Calls Try.prog 7 #[.agg (mc m lp lc dp dc)] w fun e w' => e = .returned (.bool true) ∧ Below w.heap.size w w' := by
  by_cases hs : m.data.length < 8000 ∧ m.list.length < 50
  · have hb := good_kind m
    rcases (by omega : (goodM m).kind = 1 ∨ (goodM m).kind = 2 ∨ (goodM m).kind = 3 ∨ (goodM m).kind = 4 ∨ (goodM m).kind = 5 ∨ (goodM m).kind = 6 ∨ (goodM m).kind = 7 ∨ (goodM m).kind = 8 ∨ (goodM m).kind = 9 ∨ (goodM m).kind = 10 ∨ (goodM m).kind = 11 ∨ (goodM m).kind = 12) with h | h | h | h | h | h | h | h | h | h | h | h
    · exact kind1 m lp dp lc dc w hF hs.2 hs.1 hbk hbd h
    · exact kind2 m lp dp lc dc w hF hs.2 hs.1 hbk hbd h
    · exact kind3 m lp dp lc dc w hF hs.2 hs.1 hbk hbd h
    · exact kind4 m lp dp lc dc w hF hs.2 hs.1 hbk hbd h
    · exact kind5 m lp dp lc dc w hF hs.2 hs.1 hbk hbd h
    · exact kind6 m lp dp lc dc w hF hs.2 hs.1 hbk hbd h
    · exact kind7 m lp dp lc dc w hF hs.2 hs.1 hbk hbd h
    · exact kind8 m lp dp lc dc w hF hs.2 hs.1 hbk hbd h
    · exact kind9 m lp dp lc dc w hF hs.2 hs.1 hbk hbd h
    · exact kind10 m lp dp lc dc w hF hs.2 hs.1 hbk hbd h
    · exact kind11 m lp dp lc dc w hF hs.2 hs.1 hbk hbd h
    · exact kind12 m lp dp lc dc w hF hs.2 hs.1 hbk hbd h
  · exact early7 m lp dp lc dc w hF h1 h2 hs
end Go.Proofs.Ytcdmjjlbeifgjaa
