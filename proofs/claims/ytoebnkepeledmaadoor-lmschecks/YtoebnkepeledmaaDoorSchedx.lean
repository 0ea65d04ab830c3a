/- The words of 64 bytes: schedule answers the plain function 'sched', and turns no old memory; for every 64 bytes. -/
import Derived.Test.YtoebnkepeledmaaDoorGa
import Derived.BigQuiet
import Derived.Deep.QuietTactic
import Derived.Deep.RegionWith
namespace Go.Proofs.YtoebnkepeledmaaDoor
open Go.RowKit

theorem zeros64_row : v32 zeros64 = #[Value.int IntKind.u32 0, Value.int IntKind.u32 0, Value.int IntKind.u32 0, Value.int IntKind.u32 0, Value.int IntKind.u32 0, Value.int IntKind.u32 0, Value.int IntKind.u32 0, Value.int IntKind.u32 0, Value.int IntKind.u32 0, Value.int IntKind.u32 0, Value.int IntKind.u32 0, Value.int IntKind.u32 0, Value.int IntKind.u32 0, Value.int IntKind.u32 0, Value.int IntKind.u32 0, Value.int IntKind.u32 0, Value.int IntKind.u32 0, Value.int IntKind.u32 0, Value.int IntKind.u32 0, Value.int IntKind.u32 0, Value.int IntKind.u32 0, Value.int IntKind.u32 0, Value.int IntKind.u32 0, Value.int IntKind.u32 0, Value.int IntKind.u32 0, Value.int IntKind.u32 0, Value.int IntKind.u32 0, Value.int IntKind.u32 0, Value.int IntKind.u32 0, Value.int IntKind.u32 0, Value.int IntKind.u32 0, Value.int IntKind.u32 0, Value.int IntKind.u32 0, Value.int IntKind.u32 0, Value.int IntKind.u32 0, Value.int IntKind.u32 0, Value.int IntKind.u32 0, Value.int IntKind.u32 0, Value.int IntKind.u32 0, Value.int IntKind.u32 0, Value.int IntKind.u32 0, Value.int IntKind.u32 0, Value.int IntKind.u32 0, Value.int IntKind.u32 0, Value.int IntKind.u32 0, Value.int IntKind.u32 0, Value.int IntKind.u32 0, Value.int IntKind.u32 0, Value.int IntKind.u32 0, Value.int IntKind.u32 0, Value.int IntKind.u32 0, Value.int IntKind.u32 0, Value.int IntKind.u32 0, Value.int IntKind.u32 0, Value.int IntKind.u32 0, Value.int IntKind.u32 0, Value.int IntKind.u32 0, Value.int IntKind.u32 0, Value.int IntKind.u32 0, Value.int IntKind.u32 0, Value.int IntKind.u32 0, Value.int IntKind.u32 0, Value.int IntKind.u32 0, Value.int IntKind.u32 0] := rfl

set_option maxHeartbeats 1000000 in
theorem sched_any (bs : List Int) (w : World) (hb : bs.length = 64) :
    Calls Tryd.prog 74 #[.agg (v8 bs)] w fun e w' => e = .returned (.agg (v32 (sched bs))) ∧ Below w.heap.size w w' := by
  go_enter Tryd.func74, Tryd.ntmps74
  go_wp2
  go_loopw [7] (fun i wr => ∃ k : Nat, k ≤ 16 ∧ i = .int .i64 k ∧ Row wr w.heap.size 120 (v8 bs) ∧ Row wr (w.heap.size + 1) 98 (v32 zeros64) ∧ Row wr (w.heap.size + 2) 98 (v32 (sched16 bs k)) ∧ Below w.heap.size w wr) (fun i _ => 16 - (intOf i).toNat)
  case atStart => exact ⟨0, by omega, rfl, ((Row.new w 120 _).alloc _).alloc _, (Row.newAt _ 98 _ _ (by simp)).alloc _, Row.newAt _ 98 _ _ (by simp), (((Below.refl _ _).alloc (Nat.le_refl _) _).alloc (by simp) _).alloc (by simp; omega) _⟩
  case round =>
    obtain ⟨k, hk, rfl, h1, h0, h2, hbel⟩ := hrel
    by_cases hlt : k < 16
    · have b0 : wr.cell? ⟨w.heap.size, k * 4, none⟩ = some (.int .u8 (gi bs (4 * k))) := by rw [Nat.mul_comm]; exact h1.cell8 (by omega)
      have b1 : wr.cell? ⟨w.heap.size, k * 4 + 1, none⟩ = some (.int .u8 (gi bs (4 * k + 1))) := by rw [Nat.mul_comm]; exact h1.cell8 (by omega)
      have b2 : wr.cell? ⟨w.heap.size, k * 4 + 2, none⟩ = some (.int .u8 (gi bs (4 * k + 2))) := by rw [Nat.mul_comm]; exact h1.cell8 (by omega)
      have b3 : wr.cell? ⟨w.heap.size, k * 4 + 3, none⟩ = some (.int .u8 (gi bs (4 * k + 3))) := by rw [Nat.mul_comm]; exact h1.cell8 (by omega)
      obtain ⟨v, hv⟩ : ∃ v, wr.cell? ⟨w.heap.size + 2, k, none⟩ = some v := ⟨_, h2.cell32 (by rw [sched16_length]; omega)⟩
      have hf : wr.frozen? ⟨w.heap.size + 2, k, none⟩ = false := h2.frozen
      have H1 := And.intro h1 (And.intro h0 (And.intro h2 hbel))
      have H := (show Hid _ from H1)
      clear h1 h0 h2 hbel H1
      go_wp2
      go_region
      go_wp2
      go_roundw
      case rel =>
        obtain ⟨h1, h0, h2, hbel⟩ := H.out
        exact ⟨k + 1, by omega, by go_num, (h1.setOther (by simp <;> omega) _).drew, (h0.setOther (by simp <;> omega) _).drew, (h2.set32 k _).drew, (hbel.setCell (by simp; omega) _).drew⟩
      case measure => simp [intOf]; omega
    · have hk16 : k = 16 := by omega
      subst hk16
      have H := (show Hid _ from And.intro h1 (And.intro h0 (And.intro h2 hbel)))
      clear h1 h0 h2 hbel
      go_wp2
      go_loopw [6] (fun i wr => ∃ t : Nat, 16 ≤ t ∧ t ≤ 64 ∧ i = .int .i64 t ∧ Row wr (w.heap.size + 1) 98 (v32 zeros64) ∧ Row wr (w.heap.size + 2) 98 (v32 (sched48 bs (t - 16))) ∧ Below w.heap.size w wr) (fun i _ => 64 - (intOf i).toNat)
      case atStart =>
        obtain ⟨h1, h0, h2, hbel⟩ := H.out
        exact ⟨16, by omega, by omega, rfl, h0, h2, hbel⟩
      case round =>
        clear H
        obtain ⟨t, ht, ht', rfl, h0, h2, hbel⟩ := hrel
        by_cases hlt : t < 64
        · have hl := sched48_length bs (t - 16)
          have b0 : wr.cell? ⟨w.heap.size + 2, t - 2, none⟩ = some (.int .u32 (gi (sched48 bs (t - 16)) (t - 2))) := h2.cell32 (by omega)
          have b1 : wr.cell? ⟨w.heap.size + 2, t - 7, none⟩ = some (.int .u32 (gi (sched48 bs (t - 16)) (t - 7))) := h2.cell32 (by omega)
          have b2 : wr.cell? ⟨w.heap.size + 2, t - 15, none⟩ = some (.int .u32 (gi (sched48 bs (t - 16)) (t - 15))) := h2.cell32 (by omega)
          have b3 : wr.cell? ⟨w.heap.size + 2, t - 16, none⟩ = some (.int .u32 (gi (sched48 bs (t - 16)) (t - 16))) := h2.cell32 (by omega)
          have hv : wr.cell? ⟨w.heap.size + 2, t, none⟩ = some (.int .u32 (gi (sched48 bs (t - 16)) t)) := h2.cell32 (by omega)
          have hf : wr.frozen? ⟨w.heap.size + 2, t, none⟩ = false := h2.frozen
          clear hl
          go_wp2
          refine wp_region_quiet_tail 23 (by kernel_rfl) (by kernel_rfl) ?_
          simp only [List.take_succ_cons, List.take_zero, List.drop_succ_cons, List.drop_zero]
          repeat (go_big_quiet_step (first | (go_at_call 77; exact Calls.quiet_of_same (ssig1_any _ _)) | (go_at_call 78; exact Calls.quiet_of_same (ssig0_any _ _))))
          refine wpQuiet_nil ?_
          rintro _ ⟨nq, rfl⟩
          go_wp2
          go_roundw
          case rel =>
            refine ⟨t + 1, by omega, by omega, by go_num, (h0.drewN nq).setOther (by simp <;> omega) _, ?_, (below_drewN hbel nq).setCell (by simp; omega) _⟩
            have := (h2.drewN nq).set32 t ((ssig1 (gi (sched48 bs (t - 16)) (t - 2)) + gi (sched48 bs (t - 16)) (t - 7) + ssig0 (gi (sched48 bs (t - 16)) (t - 15)) + gi (sched48 bs (t - 16)) (t - 16)) % 4294967296)
            rw [show t + 1 - 16 = (t - 16) + 1 by omega, sched48_succ, show 16 + (t - 16) = t by omega]
            exact this
          case measure => simp [intOf]; omega
        · obtain rfl : t = 64 := by omega
          clear hlt
          have hsz : (Tryd.prog.info? 98).map (·.size) = some (v32 (sched bs)).size := by rw [v32_size, sched_length]; kernel_rfl
          have hsz0 : (v32 zeros64).size = (v32 (sched bs)).size := by rw [v32_size, v32_size, sched_length]; rfl
          go_wp2_with (first | (refine wpList_load_row rfl 98 _ rfl (w.heap.size + 2) rfl 98 (v32 (sched bs)) (0, 0) _ h2 Tryd.underlying98 rfl hsz ?_) | (refine wpList_store_row rfl 98 _ _ rfl (w.heap.size + 1) (v32 (sched bs)) rfl rfl 98 (v32 zeros64) h0 hsz hsz0 (v32_one _) ?_))
          exact bodyPost_ret (results_cell_row Tryd.results74 _ _ (w.heap.size + 1) 98 (v32 (sched bs)) (0, 0) _ rfl (h0.setRow _) Tryd.underlying98 rfl hsz) rfl ⟨rfl, below_setRow hbel (by omega) _⟩
end Go.Proofs.YtoebnkepeledmaaDoor
