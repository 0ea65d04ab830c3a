/- What is read of bytes, a message: no program in it. -/
import Derived.Test.YtcdmjjlbeifgjaaRmodel2
namespace Go.Proofs.Ytcdmjjlbeifgjaa

def pRE (p : Int) (l : List Int) : Int :=
  if p = 0 then predRE l else if p = 1 then numRE 0 l else if p = 2 then listRE l else if p = 3 then numRE 5 l else if p = 4 then numRE 4 l else if p = 5 then (if l.length < 32 then 8 else 0) else if p = 6 then dataRE l else numRE 3 l
def pRM (p : Int) (l : List Int) (m : M) : M :=
  if p = 0 then { m with pred := predRV l } else if p = 1 then { m with node := numRV 0 l } else if p = 2 then { m with list := listRV l } else if p = 3 then { m with done := numRV 5 l == 1 } else if p = 4 then { m with err := numRV 4 l } else if p = 5 then { m with key := l.take 32 } else if p = 6 then { m with data := dataRV l } else { m with lease := numRV 3 l }
def pRR (p : Int) (l : List Int) : List Int :=
  if p = 0 then l.drop 1 else if p = 1 then l.drop 1 else if p = 2 then l.drop (1 + (numRV 1 l).toNat) else if p = 3 then l.drop 1 else if p = 4 then l.drop 1 else if p = 5 then l.drop 32 else if p = 6 then l.drop (2 + (numRV 2 l).toNat) else l.drop 4
end Go.Proofs.Ytcdmjjlbeifgjaa
