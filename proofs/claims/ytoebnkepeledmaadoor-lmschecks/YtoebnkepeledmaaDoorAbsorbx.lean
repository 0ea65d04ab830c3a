/- Whole chunks stirred in: absorb answers 'absorbS', and turns no old memory; for every state and every slice of bytes whose length is a multiple of 64, where roundWords holds K. -/
import Derived.Test.YtoebnkepeledmaaDoorStirx
namespace Go.Proofs.YtoebnkepeledmaaDoor
open Go.RowKit

theorem stir_s (K : List Int) (s : S8) (bs : List Int) (w : World) (hb : bs.length = 64) (hK : K.length = 64) (hg : GRow w 1 (v32 K)) :
    Calls Tryd.prog 73 #[.agg s.row, .agg (v8 bs)] w fun e w' => e = .returned (.agg (stirS K s bs).row) ∧ Below w.heap.size w w' :=
  stir_any K s.a s.b s.c s.d s.e s.f s.g s.h bs w hb hK hg

set_option maxRecDepth 20000 in
set_option maxHeartbeats 1000000 in
theorem absorb_any (K : List Int) (s : S8) (bs : List Int) (sp : Option Addr) (len cap : Nat) (w : World) (hlen : bs.length = len) (hm : len % 64 = 0) (hcap : len ≤ cap) (hmax : len ≤ 4611686018427387904)
    (hK : K.length = 64) (hg : GRow w 1 (v32 K)) (hby : Bytes w sp bs) :
    Calls Tryd.prog 69 #[.agg s.row, .slice sp len cap] w fun e w' => e = .returned (.agg (absorbS K s bs).row) ∧ Below w.heap.size w w' := by
  have hw1 := hg.lt
  have H : Hid (Bytes w sp bs) := hby
  clear hby
  go_enter Tryd.func69, Tryd.ntmps69
  go_wp2
  go_loopw [6] (fun i wr => ∃ t : Nat, t % 64 = 0 ∧ t ≤ len ∧ i = .int .i64 t ∧ Row wr w.heap.size 111 (absorbN K s bs (t / 64)).row ∧ Row wr (w.heap.size + 1) 111 S8.zero.row ∧ (∃ cl, cl.length = 64 ∧ Row wr (w.heap.size + 2) 120 (v8 cl)) ∧ GRow wr 1 (v32 K) ∧ Below w.heap.size w wr) (fun i _ => len - (intOf i).toNat)
  case atStart =>
    refine ⟨0, by omega, by omega, rfl, ((Row.new w 111 _).alloc _).alloc _, (Row.newAt _ 111 _ _ (by simp)).alloc _, ⟨List.replicate 64 0, by simp, Row.newAt _ 120 _ _ (by simp)⟩, ((hg.alloc _).alloc _).alloc _, (((Below.refl _ _).alloc (Nat.le_refl _) _).alloc (by simp) _).alloc (by simp; omega) _⟩
  case round =>
    clear hg
    obtain ⟨t, ht, htl, rfl, r0, r1, ⟨cl, hcl, r2⟩, rg, hbel⟩ := hrel
    by_cases hlt : t < len
    · obtain ⟨b, o, rfl, hc⟩ := H.out (by omega)
      have hby := (H.out.below hbel).drop t
      clear H hc
      have hch : (chunk bs (t / 64)).length = 64 := chunk_length bs (t / 64) (by omega)
      have hchb : Bytes wr (some ⟨b, o + t, none⟩) (chunk bs (t / 64)) := by
        unfold chunk; rw [show 64 * (t / 64) = t by omega]; exact hby.take 64
      have hspl : spl cl 0 (chunk bs (t / 64)) = chunk bs (t / 64) := by simp [spl, hch, hcl]
      clear hby
      go_wp2
      refine wp_region_quiet_tail 4 (by kernel_rfl) (by kernel_rfl) ?_
      simp only [List.take_succ_cons, List.take_zero, List.drop_succ_cons, List.drop_zero]
      repeat (go_big_quiet_step (fail))
      refine wpQuiet_nil ?_
      rintro _ ⟨nq, rfl⟩
      refine copy8 (.tmp 13) (.tmp 16) 28 28 (by rfl) (by rfl) 5 Tryd.underlying28 (by kernel_rfl) (some ⟨w.heap.size + 2, 0, none⟩) (some ⟨b, o + t, none⟩) 64 64 (len - t) (cap - t) (by rfl) (by rfl) (w.heap.size + 2) 0 cl 120 (r2.drewN nq) (chunk bs (t / 64)) (by rw [hch]; omega) (fun _ => rfl) hchb (by omega) ?_
      simp only [Act.put, List.setIfInBounds_toArray, List.set_cons_succ, List.set_cons_zero]
      rw [hspl]
      have q0 := (r0.drewN nq).setRowOther (g := w.heap.size + 2) (by omega) (v8 (chunk bs (t / 64)))
      have q1 := (r1.drewN nq).setRowOther (g := w.heap.size + 2) (by omega) (v8 (chunk bs (t / 64)))
      have q2 := (r2.drewN nq).setRow (v8 (chunk bs (t / 64)))
      have qg := (rg.drewN nq).setRowOther (g := w.heap.size + 2) (by omega) (v8 (chunk bs (t / 64)))
      have qb := below_setRow (g := w.heap.size + 2) (below_drewN hbel nq) (by omega) (v8 (chunk bs (t / 64)))
      generalize (wr.drewN nq).setRow (w.heap.size + 2) (v8 (chunk bs (t / 64))) = w2 at q0 q1 q2 qg qb ⊢
      clear r0 r1 r2 rg hbel hchb hspl hcl
      have hs37 : ∀ s : S8, (Tryd.prog.info? 111).map (·.size) = some s.row.size := fun s => by rw [S8.row_size]; kernel_rfl
      have hs48 : (Tryd.prog.info? 120).map (·.size) = some (v8 (chunk bs (t / 64))).size := by rw [v8_size, hch]; kernel_rfl
      have hz := q2.lt
      go_wp2_with (first
        | (refine wpList_load_row (by rfl) 111 (.tmp 2) (by rfl) w.heap.size (by rfl) 111 (absorbN K s bs (t / 64)).row (0, 0) _ q0 Tryd.underlying111 rfl (hs37 _) ?_)
        | (refine wpList_load_row (by rfl) 120 (.tmp 5) (by rfl) (w.heap.size + 2) (by rfl) 120 (v8 (chunk bs (t / 64))) (0, 0) _ q2 Tryd.underlying120 rfl hs48 ?_)
        | (go_at_call 73; refine (stir_s K _ _ _ hch hK qg).mono ?_; rintro e w3 ⟨rfl, hb3⟩)
        | (refine store_row0 111 (.tmp 2) (.tmp 20) (by rfl) (by rfl) (by rfl) w.heap.size (stirS K (absorbN K s bs (t / 64)) (chunk bs (t / 64))).row (by rfl) (by rfl) 111 _ (q0.below hb3 (by omega)) (hs37 _) (by rfl) (S8.row_one _) ?_))
      go_roundw
      case rel =>
        refine ⟨t + 64, by omega, by omega, by go_num, ?_, (q1.below hb3 (by omega)).setRowOther (by omega) _, ⟨_, hch, (q2.below hb3 (by omega)).setRowOther (by omega) _⟩, (qg.below hb3 (by omega)).setRowOther (by omega) _, below_setRow (qb.trans (hb3.mono (by omega))) (by omega) _⟩
        rw [show (t + 64) / 64 = t / 64 + 1 by omega]
        exact (q0.below hb3 (by omega)).setRow _
      case measure => simp [intOf]; omega
    · obtain rfl : t = len := by omega
      have hs37 : ∀ s : S8, (Tryd.prog.info? 111).map (·.size) = some s.row.size := fun s => by rw [S8.row_size]; kernel_rfl
      clear H
      go_wp2_with (first
        | (refine wpList_load_row (by rfl) 111 (.tmp 2) (by rfl) w.heap.size (by rfl) 111 (absorbN K s bs (t / 64)).row (0, 0) _ r0 Tryd.underlying111 rfl (hs37 _) ?_)
        | (refine store_row0 111 (.tmp 4) (.tmp 21) (by rfl) (by rfl) (by rfl) (w.heap.size + 1) (absorbN K s bs (t / 64)).row (by rfl) (by rfl) 111 _ r1 (hs37 _) (by rfl) (S8.row_one _) ?_))
      refine bodyPost_ret (results_cell_row Tryd.results69 _ _ (w.heap.size + 1) 111 (absorbN K s bs (t / 64)).row (0, 0) _ rfl (r1.setRow _) Tryd.underlying111 rfl (hs37 _)) rfl ⟨?_, below_setRow hbel (by omega) _⟩
      unfold absorbS; rw [hlen]
end Go.Proofs.YtoebnkepeledmaaDoor
