/- The bytes of a state: idOf answers 'idS', and turns no old memory; for every state. -/
import Derived.Test.YtoebnkepeledmaaDoorAbsorb
namespace Go.Proofs.YtoebnkepeledmaaDoor
open Go.RowKit

set_option maxRecDepth 20000 in
set_option maxHeartbeats 1000000 in
theorem idOf_any (s : S8) (w : World) :
    Calls Tryd.prog 71 #[.agg s.row] w fun e w' => e = .returned (.agg (v8 (idS s))) ∧ Below w.heap.size w w' := by
  have hs37 : (Tryd.prog.info? 111).map (·.size) = some s.row.size := by rw [S8.row_size]; kernel_rfl
  go_enter Tryd.func71, Tryd.ntmps71
  go_wp2_with (refine wpList_load_row (by rfl) 111 (.tmp 1) (by rfl) w.heap.size (by rfl) 111 s.row (0, 0) _ (((Row.new w 111 _).alloc _).alloc _) Tryd.underlying111 rfl hs37 ?_)
  go_loopw [8] (fun i wr => ∃ k : Nat, k ≤ 8 ∧ i = .int .i64 k ∧ Row wr (w.heap.size + 1) 24 (v8 (List.replicate 32 0)) ∧ Row wr (w.heap.size + 2) 24 (v8 (idN s k)) ∧ Below w.heap.size w wr) (fun i _ => 8 - (intOf i).toNat)
  case atStart =>
    exact ⟨0, by omega, rfl, (Row.newAt _ 24 _ _ (by simp)).alloc _, Row.newAt _ 24 _ _ (by simp), (((Below.refl _ _).alloc (Nat.le_refl _) _).alloc (by simp) _).alloc (by simp; omega) _⟩
  case round =>
    obtain ⟨k, hk, rfl, r1, r2, hbel⟩ := hrel
    by_cases hlt : k < 8
    · have hidx : ∀ wx, (Instr.index 111 (.agg s.row) (.int .i64 (k : Int))).run Tryd.prog wx = .ok (.int .u32 (s.at k)) wx := fun wx =>
        run_index_row 111 68 8 .u32 _ .i64 k _ Tryd.underlying111 Tryd.underlying68 (by kernel_rfl) hlt (s.row_at k hlt)
      have hz := r2.lt
      have h4 : (k : Int) * 4 ≤ 32 := by omega
      have h40 : 0 ≤ (k : Int) * 4 := by omega
      have h41 : ¬ 32 = k * 4 := by omega
      have hil := idN_length s k hk
      go_wp2
      have q1 := r1.alloc (.cells (v8 (wbytes (s.at k))) 66)
      have q2 := r2.alloc (.cells (v8 (wbytes (s.at k))) 66)
      have q3 := Row.new wr 66 (v8 (wbytes (s.at k)))
      have qb : Below w.heap.size w (wr.alloc (.cells (v8 (wbytes (s.at k))) 66)) := hbel.alloc (by omega) _
      refine wp_region_quiet_tail 4 (by kernel_rfl) (by kernel_rfl) ?_
      simp only [List.take_succ_cons, List.take_zero, List.drop_succ_cons, List.drop_zero]
      repeat (go_big_quiet_step (fail))
      refine wpQuiet_nil ?_
      rintro _ ⟨nq, rfl⟩
      have q0 : Bytes (wr.alloc (.cells (v8 (wbytes (s.at k))) 66)) (some ⟨wr.heap.size, 0, none⟩) (wbytes (s.at k)) := fun _ => ⟨_, _, rfl, fun j hj => by rw [Nat.zero_add]; exact q3.cell8 hj⟩
      have el : wbytes (s.at k) = [s.at k / 16777216 % 256, s.at k / 65536 % 256, s.at k / 256 % 256, s.at k % 256] := rfl
      refine copy8 (w := (wr.alloc (.cells (v8 (wbytes (s.at k))) 66)).drewN nq) (.tmp 26) (.tmp 27) 28 28 (by rfl) (by rfl) 5 Tryd.underlying28 (by kernel_rfl) (some ⟨w.heap.size + 2, k * 4, none⟩) (some ⟨wr.heap.size, 0, none⟩) (32 - k * 4) (32 - k * 4) 4 4 (by rfl) (by rfl) (w.heap.size + 2) (k * 4) (idN s k) 24 (q2.drewN nq) (wbytes (s.at k)) (by rw [el]; simp; omega) (fun _ => rfl) q0 (by rw [el, hil]; simp; omega) ?_
      simp only [Act.put, List.setIfInBounds_toArray, List.set_cons_succ, List.set_cons_zero]
      rw [show k * 4 = 4 * k by omega]
      have p1 := (q1.drewN nq).setRowOther (g := w.heap.size + 2) (by omega) (v8 (idN s (k + 1)))
      have p2 := (q2.drewN nq).setRow (v8 (idN s (k + 1)))
      have pb := below_setRow (g := w.heap.size + 2) (below_drewN qb nq) (by omega) (v8 (idN s (k + 1)))
      change wpList _ _ _ _ _ (((wr.alloc (.cells (v8 (wbytes (s.at k))) 66)).drewN nq).setRow (w.heap.size + 2) (v8 (idN s (k + 1))))
      generalize ((wr.alloc (.cells (v8 (wbytes (s.at k))) 66)).drewN nq).setRow (w.heap.size + 2) (v8 (idN s (k + 1))) = w2 at p1 p2 pb ⊢
      clear q0 q1 q2 q3 qb r1 r2 hbel el h4 h40 h41 hil
      go_wp2
      go_roundw
      case rel => exact ⟨k + 1, by omega, by go_num, p1, p2, pb⟩
      case measure => simp [intOf]; omega
    · obtain rfl : k = 8 := by omega
      have h25 : (Tryd.prog.info? 24).map (·.size) = some (v8 (idS s)).size := by rw [v8_size, show (idS s).length = 32 from idN_length s 8 (by omega)]; kernel_rfl
      have hold : (v8 (List.replicate 32 0)).size = (v8 (idS s)).size := by rw [v8_size, v8_size, show (idS s).length = 32 from idN_length s 8 (by omega)]; simp
      go_wp2_with (first
        | (refine wpList_load_row (by rfl) 24 (.tmp 3) (by rfl) (w.heap.size + 2) (by rfl) 24 (v8 (idS s)) (0, 0) _ r2 Tryd.underlying24 rfl h25 ?_)
        | (refine store_row0 24 (.tmp 2) (.tmp 30) (by rfl) (by rfl) (by rfl) (w.heap.size + 1) (v8 (idS s)) (by rfl) (by rfl) 24 _ r1 h25 hold (v8_one _) ?_))
      exact bodyPost_ret (results_cell_row Tryd.results71 _ _ (w.heap.size + 1) 24 (v8 (idS s)) (0, 0) _ rfl (r1.setRow _) Tryd.underlying24 rfl h25) rfl ⟨rfl, below_setRow hbel (by omega) _⟩
end Go.Proofs.YtoebnkepeledmaaDoor
