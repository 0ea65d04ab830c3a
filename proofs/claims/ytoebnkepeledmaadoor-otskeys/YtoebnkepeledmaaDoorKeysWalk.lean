/- OtsKeys returns true and turns no old memory, for any name, number and seed. -/
import Derived.Test.YtoebnkepeledmaaDoorKnown5
import Derived.Test.YtoebnkepeledmaaDoorRefF
import Derived.Test.YtoebnkepeledmaaDoorArrEq
namespace Go.Proofs.YtoebnkepeledmaaDoor
open Go.RowKit

set_option maxRecDepth 20000 in
set_option maxHeartbeats 1000000 in
theorem keys_any (S : List Int → List Int) (hS : Hash S) (nm seed : List Int) (q : Int) (w : World) (hL : Laid w) (hn : nm.length = 16) (hs : seed.length = 32) :
    Calls Tryd.prog 3 #[.agg (v8 nm), .int .i64 q, .agg (v8 seed)] w fun e w' => e = .returned (.bool true) ∧ Below w.heap.size w w' := by
  have hP : ∀ wx, Laid wx → Calls Tryd.prog 15 #[.agg (v8 nm), .int .i64 q, .agg (v8 seed)] wx fun e w' => e = .returned (.agg (v8 (pubL S (nm ++ n4 q) seed))) ∧ Below wx.heap.size wx w' := fun wx hl => Public_any S hS nm seed q wx hl hn hs
  have hR : ∀ wx, Calls Tryd.prog 16 #[.agg (v8 nm), .int .i64 q, .agg (v8 seed)] wx fun e w' => e = .returned (.agg (v8 (pubL S (nm ++ n4 q) seed))) ∧ Below wx.heap.size wx w' := fun wx => rPublic_any S hS nm seed q wx hn hs
  have hPl : (pubL S (nm ++ n4 q) seed).length = 32 := hS.len _
  have hK : ∀ wx, Laid wx → Calls Tryd.prog 14 #[] wx fun e w' => e = .returned (.bool true) ∧ Below wx.heap.size wx w' := fun wx hl => known5_any S hS wx hl
  generalize pubL S (nm ++ n4 q) seed = PK at *
  have heq : ∀ wx, (binOp .eql 24 (.agg (v8 PK)) (.agg (v8 PK))).run Tryd.prog wx = .ok (.bool true) wx := fun wx => by
    rw [run_eql_bytes wx 24 5 32 _ _ Tryd.underlying24 Tryd.underlying5 (by kernel_rfl) hPl hPl]; simp
  go_enter Tryd.func3, Tryd.ntmps3
  go_upto_region 1 with fail
  have r0 : Row (World.alloc (World.alloc w (.cells (v8 nm) 22)) (.cells (v8 seed) 24)) w.heap.size 22 (v8 nm) := (Row.new _ _ _).alloc _
  have r1 : Row (World.alloc (World.alloc w (.cells (v8 nm) 22)) (.cells (v8 seed) 24)) (w.heap.size + 1) 24 (v8 seed) := Row.newAt _ _ _ _ (by simp)
  have b1 : Below w.heap.size w (World.alloc (World.alloc w (.cells (v8 nm) 22)) (.cells (v8 seed) 24)) := ((Below.refl _ _).alloc (Nat.le_refl _) _).alloc (by simp) _
  change Code.wp _ _ _ _ ((World.alloc (World.alloc w (.cells (v8 nm) 22)) (.cells (v8 seed) 24)))
  generalize (World.alloc (World.alloc w (.cells (v8 nm) 22)) (.cells (v8 seed) 24)) = w1 at r0 r1 b1 ⊢
  go_wp2_with (go_at_call 14; (with_reducible refine Calls.mono (hK _ (hL.below b1)) ?_); rintro e w2 ⟨rfl, hb2⟩)
  have p0 := r0.below hb2 r0.lt
  have p1 := r1.below hb2 r1.lt
  have pb := b1.trans (hb2.mono b1.size)
  clear r0 r1 b1 hb2 hK
  refine region_tail 9 (by kernel_rfl) (by kernel_rfl) (by kernel_rfl) ?_
  apply Exists.intro
  refine ⟨fun ι _ W hb hc => ?_, fun w7 hb7 => ?_⟩
  · have t0 : ∀ i, Row (W i) w.heap.size 22 (v8 nm) := fun i => p0.below (hb i) p0.lt
    have t1 : ∀ i, Row (W i) (w.heap.size + 1) 24 (v8 seed) := fun i => p1.below (hb i) p1.lt
    have tL : ∀ i, Laid (W i) := fun i => hL.below (pb.trans ((hb i).mono pb.size))
    simp only [List.take_succ_cons, List.take_zero]
    refine q_load_row 22 (.tmp 3) (by rfl) (by rfl) (w.heap.size) (by rfl) 22 _ _ t0 Tryd.underlying22 rfl (name_info hn) ?_
    simp only [Act.put, List.setIfInBounds_toArray, List.set_cons_succ, List.set_cons_zero]
    go_big_quiet_step (fail)
    refine q_load_row 24 (.tmp 5) (by rfl) (by rfl) (w.heap.size + 1) (by rfl) 24 _ _ t1 Tryd.underlying24 rfl (id_info hs) ?_
    simp only [Act.put, List.setIfInBounds_toArray, List.set_cons_succ, List.set_cons_zero]
    go_big_quiet_step ((go_at_call 15; exact (hP _ (tL _)).mono (fun e w' ⟨he, hw⟩ => ⟨he, hc _ _ hw⟩)))
    refine q_load_row 22 (.tmp 3) (by rfl) (by rfl) (w.heap.size) (by rfl) 22 _ _ t0 Tryd.underlying22 rfl (name_info hn) ?_
    simp only [Act.put, List.setIfInBounds_toArray, List.set_cons_succ, List.set_cons_zero]
    go_big_quiet_step (fail)
    refine q_load_row 24 (.tmp 5) (by rfl) (by rfl) (w.heap.size + 1) (by rfl) 24 _ _ t1 Tryd.underlying24 rfl (id_info hs) ?_
    simp only [Act.put, List.setIfInBounds_toArray, List.set_cons_succ, List.set_cons_zero]
    go_big_quiet_step ((go_at_call 16; exact (hR _).mono (fun e w' ⟨he, hw⟩ => ⟨he, hc _ _ hw⟩)))
    go_big_quiet_step (fail)
    exact wpQuiet_nil rfl
  · simp only [List.drop_succ_cons, List.drop_zero]
    go_wp2
    go_ret
    exact ⟨rfl, pb.trans (hb7.mono pb.size)⟩
end Go.Proofs.YtoebnkepeledmaaDoor
