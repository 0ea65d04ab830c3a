/- The loops of a piece of code, in the order in which they begin. -/
import Derived.Test.YtoebnkepeledmaaDoorRefMath
namespace Go.Proofs.YtoebnkepeledmaaDoor
open Go.RowKit

def loopsOf : Code → List Code
  | .loop c => c :: loopsOf c
  | .seq a b => loopsOf a ++ loopsOf b
  | .block _ c => loopsOf c
  | .scope c => loopsOf c
  | .cond _ a b => loopsOf a ++ loopsOf b
  | _ => []
end Go.Proofs.YtoebnkepeledmaaDoor
