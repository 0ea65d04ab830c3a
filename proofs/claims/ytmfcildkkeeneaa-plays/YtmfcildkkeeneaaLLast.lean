/- A ledger's Last and Open, in the program. -/
import Derived.Test.YtmfcildkkeeneaaLWr
namespace Go.Proofs.Ytmfcildkkeeneaa
open Go Go.RowKit

set_option maxRecDepth 20000 in
set_option maxHeartbeats 1000000 in
theorem last_any (d : D) (last ops : Int) (a g h : Nat) (w : World) (hL : Row w a 63 (lc g last ops)) (hD : Dk w g h d) (heq : d.ops = ops) :
    Calls Try.prog 21 #[.pointer (some ⟨a, 0, none⟩)] w fun e w' => e = .returned (.int .i64 last) ∧ Below w.heap.size w w' := by
  subst heq
  have la := hL.lt
  have l1 := hD.lt
  have hop := fun w1 (hd : Dk w1 g h d) => ops_any d g h w1 hd
  generalize hO : d.ops = O at *
  go_enter Try.func21, Try.ntmps21
  go_upto_region 1 with fail
  refine region_tail 9 (by kernel_rfl) (by kernel_rfl) (by kernel_rfl) ?_
  apply Exists.intro
  refine ⟨fun ι _ W hb hc => ?_, fun w6 hb6 => ?_⟩
  · have t0 : ∀ i, (W i).cell? ⟨a, 0, none⟩ = some (.pointer (some ⟨g, 0, none⟩)) := fun i => (hL.below (hb i) la).cell
    have t2 : ∀ i, (W i).cell? ⟨a, 2, none⟩ = some (.int .i64 O) := fun i => (hL.below (hb i) la).cell
    have hD' : ∀ i, Dk (W i) g h d := fun i => hD.fr (Fr.of_below (l := []) (hb i)) (by simp) (by simp)
    simp only [List.take_succ_cons, List.take_zero]
    repeat (go_big_quiet_step ((go_at_call 25; exact (hop _ (hD' _)).mono (fun e w' ⟨he, hw⟩ => ⟨he, _, hw⟩))))
    exact wpQuiet_nil rfl
  · simp only [List.drop_succ_cons, List.drop_zero]
    have t1 : w6.cell? ⟨a, 1, none⟩ = some (.int .i64 last) := (hL.below hb6 la).cell
    go_wp2
    go_ret
    exact ⟨rfl, hb6⟩

set_option maxRecDepth 20000 in
set_option maxHeartbeats 1000000 in
theorem open_any (d : D) (g h : Nat) (w : World) (hD : Dk w g h d) (hk : Ok d) (hby : By d.bytes) (hdd : d.dead = false) :
    Calls Try.prog 11 #[.pointer (some ⟨g, 0, none⟩)] w fun e w' => ∃ a, e = .returned (.tuple #[.pointer (some ⟨a, 0, none⟩), .int .i64 0]) ∧ w.heap.size ≤ a ∧ Row w' a 63 (lc g (grL d.bytes) d.ops) ∧ Below w.heap.size w w' := by
  have hde := fun w1 (hd : Dk w1 g h d) => dead_any d g h w1 hd
  rw [hdd] at hde
  have hby1 := fun w1 (hd : Dk w1 g h d) => bytes_any d g h w1 hd hk
  have hop := fun w1 (hd : Dk w1 g h d) => ops_any d g h w1 hd
  have hf := hk.fits
  have hr := hk.room
  have hgr := fun w1 p (hb : Bytes w1 p d.bytes) => greatest_any d.bytes p d.bytes.length w1 hby (by omega) (Nat.le_refl _) hb
  generalize grL d.bytes = G at *
  go_enter Try.func11, Try.ntmps11
  go_wp2_with (first | (go_at_call 23; (with_reducible refine Calls.mono (hde _ hD) ?_); rintro e w1 ⟨rfl, hw⟩; obtain rfl := hw.symm; clear hw) | (go_at_call 22; (with_reducible refine Calls.mono (hby1 _ hD) ?_); rintro e w2 ⟨rfl, r2, hb2⟩) | (go_at_call 24; (with_reducible refine Calls.mono (hgr _ _ r2.bytes) ?_); rintro e w3 ⟨rfl, hb3⟩; have hb23 := hb2.trans (hb3.mono hb2.size); have hD3 : Dk w3 g h d := hD.fr (Fr.of_below (l := []) hb23) (by simp) (by simp)) | (go_at_call 25; (with_reducible refine Calls.mono (hop _ hD3) ?_); rintro e w4 ⟨rfl, hw⟩; obtain rfl := hw.symm; clear hw))
  go_ret2
  exact ⟨_, rfl, hb23.size, Row.new _ 63 _, hb23.alloc hb23.size _⟩

set_option maxRecDepth 20000 in
set_option maxHeartbeats 1000000 in
theorem open_dead (d : D) (g h : Nat) (w : World) (hD : Dk w g h d) (hdd : d.dead = true) :
    Calls Try.prog 11 #[.pointer (some ⟨g, 0, none⟩)] w fun e w' => e = .returned (.tuple #[.pointer none, .int .i64 17]) ∧ w' = w := by
  have hde := fun w1 (hd : Dk w1 g h d) => dead_any d g h w1 hd
  rw [hdd] at hde
  go_enter Try.func11, Try.ntmps11
  go_wp2_with (go_at_call 23; (with_reducible refine Calls.mono (hde _ hD) ?_); rintro e w1 ⟨rfl, hw⟩; obtain rfl := hw.symm; clear hw)
  go_ret2
  exact ⟨rfl, rfl⟩
end Go.Proofs.Ytmfcildkkeeneaa
