/- The hash of two rows: Pair answers 'shaS' of both, one behind the other, and turns no old memory; for every two slices of bytes of at most 2^45 together. -/
import Derived.Test.YtoebnkepeledmaaDoorPad
import Derived.Deep.CutRange
namespace Go.Proofs.YtoebnkepeledmaaDoor
open Go.RowKit

theorem info5 : (Tryd.prog.info? 5).map (fun i => (i.zero, i.size, i.bytes)) = some (some (.int .u8 0), 1, 1) := by kernel_rfl
theorem shaS_len (bs : List Int) : (shaS bs).length = 32 := idN_length _ 8 (by omega)
theorem made_v8 (n : Nat) : madeCells #[.int .u8 0] n = v8 (List.replicate n 0) := by
  unfold madeCells v8
  apply Array.ext
  · simp
  · intro i h1 h2
    simp [Nat.mod_one]
theorem make8 (n : Nat) (hn : n ≤ 140737488355328) (w : World) : (Instr.makeSlice 28 (.int .i64 (n : Int)) (.int .i64 (n : Int))).run Tryd.prog w = .ok (.slice (some ⟨w.heap.size, 0, none⟩) n n) (w.alloc (.cells (v8 (List.replicate n 0)) 5)) := by
  obtain ⟨i, hi, hz, h1, h2⟩ : ∃ i, Tryd.prog.info? 5 = some i ∧ i.zero = some (.int .u8 0) ∧ i.size = 1 ∧ i.bytes = 1 := by
    have hinfo := info5
    cases hq : Tryd.prog.info? 5 with
    | none => simp [hq] at hinfo
    | some i => simp [hq] at hinfo; exact ⟨i, rfl, hinfo.1, hinfo.2.1, hinfo.2.2⟩
  have := run_make w 28 5 i (.int .u8 0) Tryd.underlying28 hi hz .i64 .i64 (n : Int) (n : Int) (by omega) (by omega) (by rw [h2]; omega) (by omega)
  rw [this, h1]
  simp only [Int.toNat_natCast, Nat.mul_one]
  rw [← made_v8]; rfl
theorem spl_both (x y : List Int) : spl (spl (List.replicate (x.length + y.length) 0) 0 x) x.length y = x ++ y := by
  simp [spl]

set_option maxRecDepth 20000 in
set_option maxHeartbeats 1000000 in
theorem pair_any (xa xb : List Int) (sa sb : Option Addr) (la ca lb cb : Nat) (w : World) (hla : xa.length = la) (hlb : xb.length = lb) (hmax : la + lb ≤ 35184372088832)
    (hl : Laid w) (ha : Bytes w sa xa) (hb : Bytes w sb xb) :
    Calls Tryd.prog 63 #[.slice sa la ca, .slice sb lb cb] w fun e w' => e = .returned (.agg (v8 (shaS (xa ++ xb)))) ∧ Below w.heap.size w w' := by
  have hmk := make8 (la + lb) (by omega)
  rw [show ((la + lb : Nat) : Int) = (la : Int) + (lb : Int) by omega] at hmk
  have i25 : (Tryd.prog.info? 24).map (·.size) = some (v8 (shaS (xa ++ xb))).size := by rw [v8_size, shaS_len]; kernel_rfl
  have hold : (v8 (List.replicate 32 0)).size = (v8 (shaS (xa ++ xb))).size := by rw [v8_size, v8_size, shaS_len]; simp
  go_enter Tryd.func63, Tryd.ntmps63
  go_upto_region 2 with fail
  have r0 : Row ((w.alloc (.cells (v8 (List.replicate 32 0)) 24)).alloc (.cells (v8 (List.replicate (la + lb) 0)) 5)) w.heap.size 24 (v8 (List.replicate 32 0)) := (Row.new _ _ _).alloc _
  have r1 : Row ((w.alloc (.cells (v8 (List.replicate 32 0)) 24)).alloc (.cells (v8 (List.replicate (la + lb) 0)) 5)) (w.heap.size + 1) 5 (v8 (List.replicate (la + lb) 0)) := Row.newAt _ _ _ _ (by simp)
  have b0 : Below w.heap.size w ((w.alloc (.cells (v8 (List.replicate 32 0)) 24)).alloc (.cells (v8 (List.replicate (la + lb) 0)) 5)) := ((Below.refl _ _).alloc (Nat.le_refl _) _).alloc (by simp) _
  change Code.wp _ _ _ _ ((w.alloc (.cells (v8 (List.replicate 32 0)) 24)).alloc (.cells (v8 (List.replicate (la + lb) 0)) 5))
  generalize (w.alloc (.cells (v8 (List.replicate 32 0)) 24)).alloc (.cells (v8 (List.replicate (la + lb) 0)) 5) = w2 at r0 r1 b0 ⊢
  have ha2 := ha.below b0
  clear hmk
  go_upto_region 3 with (refine copy8 (.tmp 12) (.tmp 13) 28 28 (by rfl) (by rfl) 5 Tryd.underlying28 (by kernel_rfl) (some ⟨w.heap.size + 1, 0, none⟩) sa (la + lb) (la + lb) la ca (by rfl) (by rfl) (w.heap.size + 1) 0 (List.replicate (la + lb) 0) 5 r1 xa (by omega) (fun _ => rfl) ha2 (by simp; omega) ?_)
  have q0 := r0.setRowOther (g := w.heap.size + 1) (by omega) (v8 (spl (List.replicate (la + lb) 0) 0 xa))
  have q1 := r1.setRow (v8 (spl (List.replicate (la + lb) 0) 0 xa))
  have qb := below_setRow (g := w.heap.size + 1) b0 (by omega) (v8 (spl (List.replicate (la + lb) 0) 0 xa))
  generalize w2.setRow (w.heap.size + 1) (v8 (spl (List.replicate (la + lb) 0) 0 xa)) = w3 at q0 q1 qb ⊢
  have hb3 := hb.below qb
  have hsl : (spl (List.replicate (la + lb) 0) 0 xa).length = la + lb := by rw [spl_length _ _ _ (by simp; omega)]; simp
  have hboth : spl (spl (List.replicate (la + lb) 0) 0 xa) la xb = xa ++ xb := by rw [← hla, ← hlb]; exact spl_both xa xb
  clear r0 r1 b0 ha2
  have hsum : ∀ wx n, n = la + lb → Below w.heap.size w wx → Row wx (w.heap.size + 1) 5 (v8 (xa ++ xb)) → Calls Tryd.prog 59 #[.slice (some ⟨w.heap.size + 1, 0, none⟩) n n] wx fun e w' => e = .returned (.agg (v8 (shaS (xa ++ xb)))) ∧ Below wx.heap.size wx w' := fun wx n hn hbx hr =>
    sum_any (xa ++ xb) _ _ _ wx (by simp; omega) (Nat.le_refl _) (by omega) (hl.below hbx) hr.bytes
  have hlt1 := q1.lt
  rcases Nat.eq_zero_or_pos lb with hz | hz
  · subst hz
    simp only [Nat.add_zero] at q0 q1 qb hsl hboth hsum ⊢
    go_wp2_with (first | (refine copy8 (.tmp 18) (.tmp 19) 28 28 (by rfl) (by rfl) 5 Tryd.underlying28 (by kernel_rfl) (some ⟨w.heap.size + 1, 0, none⟩) sb 0 0 0 cb (by rfl) (by rfl) (w.heap.size + 1) la _ 5 q1 xb (by omega) (fun h => by omega) hb3 (by omega) ?_; rw [hboth]) | (go_at_call 59; refine Calls.mono (hsum _ _ rfl (below_setRow qb (by omega) _) (q1.setRow _)) ?_; rintro e w4 ⟨rfl, hb4⟩) | (refine store_row0 24 (.tmp 4) (.tmp 22) (by rfl) (by rfl) (by rfl) w.heap.size (v8 (shaS (xa ++ xb))) (by rfl) (by rfl) 24 _ ((q0.setRowOther (by omega) _).below hb4 (by simp; omega)) i25 hold (v8_one _) ?_))
    exact bodyPost_ret (results_cell_row Tryd.results63 _ _ w.heap.size 24 (v8 (shaS (xa ++ xb))) (0, 0) _ rfl (((q0.setRowOther (g := w.heap.size + 1) (by omega) (v8 (xa ++ xb))).below hb4 (by simp; omega)).setRow _) Tryd.underlying24 rfl i25) rfl ⟨rfl, below_setRow ((below_setRow (g := w.heap.size + 1) qb (by omega) (v8 (xa ++ xb))).trans (hb4.mono (by simp; omega))) (Nat.le_refl _) _⟩
  · have hz' : ¬ la + lb = la := by omega
    go_wp2_with (first | (refine copy8 (.tmp 18) (.tmp 19) 28 28 (by rfl) (by rfl) 5 Tryd.underlying28 (by kernel_rfl) (some ⟨w.heap.size + 1, la, none⟩) sb _ _ lb cb (by rfl) (by rfl) (w.heap.size + 1) la _ 5 q1 xb (by omega) (fun _ => rfl) hb3 (by omega) ?_; rw [hboth]) | (go_at_call 59; refine Calls.mono (hsum _ _ (by omega) (below_setRow qb (by omega) _) (q1.setRow _)) ?_; rintro e w4 ⟨rfl, hb4⟩) | (refine store_row0 24 (.tmp 4) (.tmp 22) (by rfl) (by rfl) (by rfl) w.heap.size (v8 (shaS (xa ++ xb))) (by rfl) (by rfl) 24 _ ((q0.setRowOther (by omega) _).below hb4 (by simp; omega)) i25 hold (v8_one _) ?_))
    exact bodyPost_ret (results_cell_row Tryd.results63 _ _ w.heap.size 24 (v8 (shaS (xa ++ xb))) (0, 0) _ rfl (((q0.setRowOther (g := w.heap.size + 1) (by omega) (v8 (xa ++ xb))).below hb4 (by simp; omega)).setRow _) Tryd.underlying24 rfl i25) rfl ⟨rfl, below_setRow ((below_setRow (g := w.heap.size + 1) qb (by omega) (v8 (xa ++ xb))).trans (hb4.mono (by simp; omega))) (Nat.le_refl _) _⟩
end Go.Proofs.YtoebnkepeledmaaDoor
