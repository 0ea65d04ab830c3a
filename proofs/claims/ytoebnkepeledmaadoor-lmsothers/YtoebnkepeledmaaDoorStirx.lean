/- 64 bytes stirred into a state: stir answers the plain function 'stirS', and turns no old memory; for every state and every 64 bytes, where the variable roundWords holds K. -/
import Derived.Test.YtoebnkepeledmaaDoorSchedx
namespace Go.Proofs.YtoebnkepeledmaaDoor
open Go.RowKit

set_option maxRecDepth 20000 in
set_option maxHeartbeats 1000000 in
theorem stir_any (K : List Int) (a b c d e f g h : Int) (bs : List Int) (w : World) (hb : bs.length = 64) (hK : K.length = 64) (hg : GRow w 1 (v32 K)) :
    Calls Tryd.prog 73 #[.agg #[.int .u32 a, .int .u32 b, .int .u32 c, .int .u32 d, .int .u32 e, .int .u32 f, .int .u32 g, .int .u32 h], .agg (v8 bs)] w fun ee w' =>
      ee = .returned (.agg (stirS K ⟨a, b, c, d, e, f, g, h⟩ bs).row) ∧ Below w.heap.size w w' := by
  have hw1 := hg.lt
  have hsz8 : (Tryd.prog.info? 120).map (·.size) = some (v8 bs).size := by rw [v8_size, hb]; kernel_rfl
  have hszW : (Tryd.prog.info? 98).map (·.size) = some (v32 (sched bs)).size := by rw [v32_size, sched_length]; kernel_rfl
  have hsz0 : (v32 zeros64).size = (v32 (sched bs)).size := by rw [v32_size, v32_size, sched_length]; rfl
  go_enter Tryd.func73, Tryd.ntmps73
  go_wp2_with (first | (refine wpList_load_row (by rfl) 120 (.tmp 3) (by rfl) (w.heap.size + 1) (by rfl) 120 (v8 bs) (0, 0) _ ?hr Tryd.underlying120 rfl hsz8 ?_; case hr => exact ((Row.newAt _ 120 _ _ (by simp)).alloc _)) | (go_at_call 74; refine (sched_any bs _ hb).mono ?_; rintro e w1 ⟨rfl, hbel⟩) | (refine store_row0 98 (.tmp 5) (.tmp 18) (by rfl) (by rfl) (by rfl) w1.heap.size (v32 (sched bs)) (by rfl) (by rfl) 98 (v32 zeros64) ?hr hszW hsz0 (v32_one _) ?_; case hr => exact (Row.newAt _ 98 _ _ rfl)))
  have hsz1 := hbel.size
  simp only [World.size_alloc] at hsz1 hbel
  have r0 := ((Row.below (((Row.new w 111 #[.int .u32 a, .int .u32 b, .int .u32 c, .int .u32 d, .int .u32 e, .int .u32 f, .int .u32 g, .int .u32 h]).alloc _).alloc _) hbel (by omega)).alloc (.cells (v32 zeros64) 98)).setRowOther (g := w1.heap.size) (by omega) (v32 (sched bs))
  have r1 := ((Row.below (Row.newAt _ 111 #[.int .u32 0, .int .u32 0, .int .u32 0, .int .u32 0, .int .u32 0, .int .u32 0, .int .u32 0, .int .u32 0] (w.heap.size + 2) (by simp)) hbel (by omega)).alloc (.cells (v32 zeros64) 98)).setRowOther (g := w1.heap.size) (by omega) (v32 (sched bs))
  have r2 := (Row.new w1 98 (v32 zeros64)).setRow (v32 (sched bs))
  have b2 : Below w.heap.size w ((w1.alloc (.cells (v32 zeros64) 98)).setRow w1.heap.size (v32 (sched bs))) :=
    below_setRow (((((((Below.refl _ _).alloc (Nat.le_refl _) _).alloc (by simp) _).alloc (by simp; omega) _).trans (hbel.mono (by omega)))).alloc (by omega) _) (by omega) _
  have hs2 : ((w1.alloc (.cells (v32 zeros64) 98)).setRow w1.heap.size (v32 (sched bs))).heap.size = w1.heap.size + 1 := by simp
  rw [← zeros64_row]
  generalize (w1.alloc (.cells (v32 zeros64) 98)).setRow w1.heap.size (v32 (sched bs)) = w2 at r0 r1 r2 b2 hs2 ⊢
  have c0 : w2.cell? ⟨w.heap.size, 0, none⟩ = some (.int .u32 a) := r0.cell
  have c1 : w2.cell? ⟨w.heap.size, 1, none⟩ = some (.int .u32 b) := r0.cell
  have c2 : w2.cell? ⟨w.heap.size, 2, none⟩ = some (.int .u32 c) := r0.cell
  have c3 : w2.cell? ⟨w.heap.size, 3, none⟩ = some (.int .u32 d) := r0.cell
  have c4 : w2.cell? ⟨w.heap.size, 4, none⟩ = some (.int .u32 e) := r0.cell
  have c5 : w2.cell? ⟨w.heap.size, 5, none⟩ = some (.int .u32 f) := r0.cell
  have c6 : w2.cell? ⟨w.heap.size, 6, none⟩ = some (.int .u32 g) := r0.cell
  have c7 : w2.cell? ⟨w.heap.size, 7, none⟩ = some (.int .u32 h) := r0.cell
  have rg : GRow w2 1 (v32 K) := hg.below b2 hw1
  clear hg hszW hsz0 hsz8
  go_quiet (fail)
  go_wp2
  go_loopw [6, 7, 8, 9, 10, 11, 12, 13, 35] (fun xa xb xc xd xe xf xg xh i wr => ∃ k : Nat, k ≤ 64 ∧ i = .int .i64 k ∧ (Row wr w.heap.size 111 #[.int .u32 a, .int .u32 b, .int .u32 c, .int .u32 d, .int .u32 e, .int .u32 f, .int .u32 g, .int .u32 h] ∧ Row wr (w.heap.size + 2) 111 #[.int .u32 0, .int .u32 0, .int .u32 0, .int .u32 0, .int .u32 0, .int .u32 0, .int .u32 0, .int .u32 0] ∧ Row wr w1.heap.size 98 (v32 (sched bs)) ∧ GRow wr 1 (v32 K) ∧ Below w.heap.size w wr) ∧
      ∃ s : S8, s = rnds K (sched bs) ⟨a, b, c, d, e, f, g, h⟩ k ∧ xa = .int .u32 s.a ∧ xb = .int .u32 s.b ∧ xc = .int .u32 s.c ∧ xd = .int .u32 s.d ∧ xe = .int .u32 s.e ∧ xf = .int .u32 s.f ∧ xg = .int .u32 s.g ∧ xh = .int .u32 s.h) (fun _ _ _ _ _ _ _ _ i _ => 64 - (intOf i).toNat)
  case atStart => exact ⟨0, by omega, rfl, ⟨r0, r1, r2, rg, below_drewN b2 nq⟩, _, rfl, rfl, rfl, rfl, rfl, rfl, rfl, rfl, rfl⟩
  case round =>
    clear r0 r1 r2 rg b2 c0 c1 c2 c3 c4 c5 c6 c7
    obtain ⟨k, hk, rfl, ⟨r0, r1, r2, rg, b2⟩, s, hs, rfl, rfl, rfl, rfl, rfl, rfl, rfl, rfl⟩ := hrel
    have HS : Hid (s = rnds K (sched bs) ⟨a, b, c, d, e, f, g, h⟩ k) := hs
    clear hs
    by_cases hlt : k < 64
    · have k0 : wr.cell? ⟨1, k, none⟩ = some (.int .u32 (gi K k)) := rg.cell32 (by omega)
      have k1 : wr.cell? ⟨w1.heap.size, k, none⟩ = some (.int .u32 (gi (sched bs) k)) := r2.cell32 (by rw [sched_length]; omega)
      go_wp2
      go_quiet ((go_at_call 75; exact Calls.quiet_of_same (bsig1_any _ _)))
      go_wp2_with (go_at_call 76; refine (bsig0_any _ _).mono ?_; rintro e w' ⟨rfl, rfl⟩)
      go_roundw
      case rel => exact ⟨k + 1, by omega, by go_num, ⟨r0, r1, r2, rg, below_drewN b2 _⟩, rnd s (gi K k) (gi (sched bs) k), by rw [HS.out]; rfl, rfl, rfl, rfl, rfl, rfl, rfl, rfl, rfl⟩
      case measure => simp [intOf]; omega
    · obtain rfl : k = 64 := by omega
      have c0 : wr.cell? ⟨w.heap.size, 0, none⟩ = some (.int .u32 a) := r0.cell
      have c1 : wr.cell? ⟨w.heap.size, 1, none⟩ = some (.int .u32 b) := r0.cell
      have c2 : wr.cell? ⟨w.heap.size, 2, none⟩ = some (.int .u32 c) := r0.cell
      have c3 : wr.cell? ⟨w.heap.size, 3, none⟩ = some (.int .u32 d) := r0.cell
      have c4 : wr.cell? ⟨w.heap.size, 4, none⟩ = some (.int .u32 e) := r0.cell
      have c5 : wr.cell? ⟨w.heap.size, 5, none⟩ = some (.int .u32 f) := r0.cell
      have c6 : wr.cell? ⟨w.heap.size, 6, none⟩ = some (.int .u32 g) := r0.cell
      have c7 : wr.cell? ⟨w.heap.size, 7, none⟩ = some (.int .u32 h) := r0.cell
      clear hbel hlt
      have hi37 : (Tryd.prog.info? 111).map (·.size) = some (v32 [(a + s.a) % 4294967296, (b + s.b) % 4294967296, (c + s.c) % 4294967296, (d + s.d) % 4294967296, (e + s.e) % 4294967296, (f + s.f) % 4294967296, (g + s.g) % 4294967296, (h + s.h) % 4294967296]).size := by rw [v32_size]; kernel_rfl
      go_wp2_with (refine store_row0 111 (.tmp 4) (.tmp 118) (by rfl) (by rfl) (by rfl) (w.heap.size + 2) (v32 [(a + s.a) % 4294967296, (b + s.b) % 4294967296, (c + s.c) % 4294967296, (d + s.d) % 4294967296, (e + s.e) % 4294967296, (f + s.f) % 4294967296, (g + s.g) % 4294967296, (h + s.h) % 4294967296]) (by rfl) (by rfl) 111 _ r1 hi37 (by rw [v32_size]; rfl) (v32_one _) ?_)
      have hse := HS.out
      refine bodyPost_ret (results_cell_row Tryd.results73 _ _ (w.heap.size + 2) 111 (v32 [(a + s.a) % 4294967296, (b + s.b) % 4294967296, (c + s.c) % 4294967296, (d + s.d) % 4294967296, (e + s.e) % 4294967296, (f + s.f) % 4294967296, (g + s.g) % 4294967296, (h + s.h) % 4294967296]) (0, 0) _ rfl (r1.setRow _) Tryd.underlying111 rfl hi37) rfl ⟨?_, below_setRow b2 (by omega) _⟩
      rw [hse]
      rfl
end Go.Proofs.YtoebnkepeledmaaDoor
