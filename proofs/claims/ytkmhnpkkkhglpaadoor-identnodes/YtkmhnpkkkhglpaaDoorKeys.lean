/- The first four bytes of a node's hash, as a number. -/
import Derived.Test.YtkmhnpkkkhglpaaDoorSum
namespace Go.Proofs.YtkmhnpkkkhglpaaDoor
def nodeB (i : Nat) : List Int := [110, 111, 100, 101, (i : Int)]
def keyOf (i : Nat) : Int := ((shaS (nodeB i)).take 4).foldl (fun a x => a * 256 + x) 0
end Go.Proofs.YtkmhnpkkkhglpaaDoor
