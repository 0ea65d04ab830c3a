/- What the rows' listed variables give the walks: the two tables lie in memory as the text lays them. No condition. -/
import Derived.Test.YtoebnkepeledmaaDoorRows
import Derived.Test.YtoebnkepeledmaaDoorSum
import Derived.ProofKit
import Derived.LaidMore
import Derived.OpenShut
import Derived.Stop.Joined
import Derived.Lib.LaidTab
namespace Go.Proofs.YtoebnkepeledmaaDoor
open Go.ChangeShapes Go.WideShapes Go.ChangeAt Go.RowKit

theorem own : ownKnob Tryd.prog.godebug = none := by kernel_rfl
theorem laidOut : laidOutB Tryd.prog = true := by kernel_rfl
theorem g0 : Tryd.prog.globalNamed "lattice/sha.firstState" = some 0 := by kernel_rfl
theorem g1 : Tryd.prog.globalNamed "lattice/sha.roundWords" = some 1 := by kernel_rfl
theorem t0 : (Tryd.prog.globals[0]?).map (·.type) = some 111 := by kernel_rfl
theorem t1 : (Tryd.prog.globals[1]?).map (·.type) = some 98 := by kernel_rfl
def laid2 : List (String × DataW Unit) := [("lattice/sha.firstState", Rows.laid_lattice_sha_firstState), ("lattice/sha.roundWords", Rows.laid_lattice_sha_roundWords)]

theorem grow_of_var {W : World} {n : String} {g : Nat} {cs : Array Value} (hg : Tryd.prog.globalNamed n = some g) (hv : W.var? Tryd.prog n = some cs) : GRow W g cs := by
  unfold World.var? at hv
  rw [hg] at hv
  simp only [Option.bind_some] at hv
  split at hv
  · rename_i c t fr h
    cases hv
    exact ⟨t, fr, h⟩
  · cases hv

theorem of_laid {W : World} (h : laidMetH Tryd.prog laid2 W) : Laid W := by
  rw [MakeChecks.laidMetH_plain _ _ _ (by kernel_rfl)] at h
  obtain ⟨ps, ⟨a0, b0, cs0, f0, p0, q0, hg0, ht0, hv0, hd0, ⟨a1, b1, cs1, f1, p1, q1, hg1, ht1, hv1, hd1, _, _⟩, _⟩, _, _⟩ := h
  obtain rfl := Option.some.inj (g0.symm.trans hg0)
  obtain rfl := Option.some.inj (g1.symm.trans hg1)
  obtain rfl := Option.some.inj (t0.symm.trans ht0)
  obtain rfl := Option.some.inj (t1.symm.trans ht1)
  have e0 := Lib.cells_of_tab (k := .u32) (zs := [s0.a, s0.b, s0.c, s0.d, s0.e, s0.f, s0.g, s0.h]) Tryd.underlying111 Tryd.underlying68 (by kernel_rfl) (by kernel_rfl) hd0
  have e1 := Lib.cells_of_tab (k := .u32) (zs := kWords) Tryd.underlying98 Tryd.underlying68 (by kernel_rfl) (by kernel_rfl) hd1
  have r0 := grow_of_var hg0 hv0
  have r1 := grow_of_var hg1 hv1
  obtain ⟨l0⟩ := cs0
  obtain ⟨l1⟩ := cs1
  simp only at e0 e1
  subst e0; subst e1
  exact ⟨r0, r1⟩

theorem door_met (os : Os) (args : Array Value) : laidMetH Tryd.prog laid2 ((World.doorLaid Tryd.prog 400 os).forCall (fun _ _ => 0) ⟨#[], args, []⟩).memory :=
  laidMetH_of_parts3 (fuel := 8) (laidMet_of_run' 8 (by kernel_rfl) (by kernel_rfl)) (by kernel_rfl) (by kernel_rfl)

end Go.Proofs.YtoebnkepeledmaaDoor
