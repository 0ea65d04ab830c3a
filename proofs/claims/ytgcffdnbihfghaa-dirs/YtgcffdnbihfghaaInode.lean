/- Inode: an inode's block, written or refused. No old memory turns. -/
import Derived.Test.YtgcffdnbihfghaaSized
import Derived.Test.YtgcffdnbihfghaaPut
namespace Go.Proofs.Ytgcffdnbihfghaa
open Go Go.RowKit
/-- What a block's writer answers: bytes of its own, or none beside an error. -/
def Gives (w : World) (L : List Int) (E : Int) (e : Ending) (w' : World) : Prop :=
  ∃ sp cap, e = .returned (.tuple #[.slice sp L.length cap, .int .i64 E]) ∧ Own8 w' w.heap.size 5 (.slice sp L.length cap) L ∧ Below w.heap.size w w'
theorem outN_bad {n : Nd} {E : Int} (h : errN n = E) (hE : E ≠ 0) : outN n = [] := by unfold outN; rw [h, if_neg hE]
theorem outN_ok {n : Nd} (h : errN n = 0) : outN n = encN n := by unfold outN; rw [if_pos h]
theorem errN_kind {n : Nd} (h : errN n ≠ 3) : n.kind = 1 ∨ n.kind = 2 := by
  unfold errN at h
  by_cases h0 : n.kind ≠ 1 ∧ n.kind ≠ 2
  · rw [if_pos h0] at h; exact absurd rfl h
  · omega
theorem okN_levels {n : Nd} (h : okN n = true) : n.levels = lvl n.size ∧ 0 ≤ n.size ∧ n.size ≤ 1048576 := by
  unfold okN at h
  simp at h
  omega
theorem encN_len {n : Nd} (ht : n.top.length = 32) : (encN n).length = 39 := by simp [encN, n4_len, ht]

set_option maxRecDepth 20000 in
set_option maxHeartbeats 1000000 in
theorem inode_any (n : Nd) (w : World) (ht : n.top.length = 32) :
    Calls Try.prog 11 #[.agg (nc n)] w (Gives w (outN n) (errN n)) := by
  have hb : Below w.heap.size w (w.alloc (.cells (nc n) 25)) := (Below.refl _ _).alloc (Nat.le_refl _) _
  have hr : NRow (w.alloc (.cells (nc n) 25)) w.heap.size n := ⟨Row.new _ _ _⟩
  have hi25 : (Try.prog.info? 25).map (·.size) = some (nc n).size := by rw [nc_size ht]; kernel_rfl
  have hsz := fun wx => sized_any n wx ht
  have hmk : ∀ wx, (Instr.makeSlice 27 (.int .i64 39) (.int .i64 39)).run Try.prog wx = .ok (.slice (some ⟨wx.heap.size, 0, none⟩) 39 39) (wx.alloc (.cells (v8 (zer 39)) 5)) := fun wx => make8 39 39 rfl (by decide) wx
  obtain ⟨E, hE⟩ : ∃ E, errN n = E := ⟨_, rfl⟩
  have hbad := @outN_bad n E hE
  have hok0 := @outN_ok n
  have hlv := @okN_levels n
  have henc : encN n = [105, n.kind] ++ n4 n.size ++ [n.levels] ++ n.top := rfl
  rw [hE] at hok0 ⊢
  unfold errN at hE
  have hput := fun (l : List Int) (g : Nat) wx (hr : Row wx g 5 (v8 l)) (hf : 2 + 4 ≤ l.length) => put_any l n.size g 2 4 37 5 wx hr hf (by omega)
  rw [bytesK_four] at hput
  have hrow : Row (w.alloc (.cells (nc n) 25)) w.heap.size 25 (nc n) := Row.new _ _ _
  obtain ⟨O, hO⟩ : ∃ O, okN n = O := ⟨_, rfl⟩
  obtain ⟨L, hL⟩ : ∃ L, outN n = L := ⟨_, rfl⟩
  obtain ⟨N, hN⟩ : ∃ N, nc n = N := ⟨_, rfl⟩
  simp only [hO, hL, hN] at hb hsz hi25 hrow hbad hok0 hlv hE ⊢
  have hr' : ∀ wx, Row wx w.heap.size 25 N → NRow wx w.heap.size n := fun wx h => ⟨by rw [hN]; exact h⟩
  rw [hN] at hr
  obtain ⟨kd, s, lv, tp⟩ := n
  simp only at ht hE hlv henc hput
  have c0 : (w.alloc (.cells N 25)).cell? ⟨w.heap.size, 0, none⟩ = some (.int .i64 kd) := hr.c0
  clear hN hL hO hr
  go_enter Try.func11, Try.ntmps11
  by_cases h0 : kd ≠ 1 ∧ kd ≠ 2
  · rw [if_pos h0] at hE
    subst hE
    obtain rfl := hbad (by decide)
    obtain ⟨h0a, h0b⟩ := h0
    have n1 : (kd != 1) = true := by simpa using h0a
    have n2 : (kd != 2) = true := by simpa using h0b
    clear henc hput hok0
    go_wp2
    go_ret2
    exact ⟨none, 0, rfl, own8_none _ _, hb⟩
  rw [if_neg h0] at hE
  rcases (by omega : kd = 1 ∨ kd = 2) with rfl | rfl
  · clear h0
    cases O with
    | false =>
      rw [if_neg (by decide)] at hE
      subst hE
      obtain rfl := hbad (by decide)
      clear henc hput hok0 hlv
      go_wp2_with (first | (refine wpList_load_row (by rfl) 25 (.tmp 1) (by rfl) w.heap.size (by rfl) 25 N (0, 0) _ hrow Try.underlying25 rfl hi25 ?_) | (go_at_call 31; (with_reducible refine Calls.mono (hsz _) ?_); rintro e w2 ⟨rfl, hb2⟩))
      go_ret2
      exact ⟨none, 0, rfl, own8_none _ _, hb.trans (hb2.mono hb.size)⟩
    | true =>
      rw [if_pos rfl] at hE
      subst hE
      obtain rfl := hok0 rfl
      obtain ⟨hv1, hs0, hs1⟩ := hlv rfl
      have hlr : 0 ≤ lv ∧ lv ≤ 5 := by rw [hv1]; exact lvl_range s
      clear hbad hok0 hlv hv1
      go_upto_region 5 with (first | (refine wpList_load_row (by rfl) 25 (.tmp 1) (by rfl) w.heap.size (by rfl) 25 N (0, 0) _ hrow Try.underlying25 rfl hi25 ?_) | (go_at_call 31; (with_reducible refine Calls.mono (hsz _) ?_); rintro e w2 ⟨rfl, hb2⟩))
      have r0 : Row w2 w.heap.size 25 N := hrow.below hb2 hrow.lt
      have b2 := hb.trans (hb2.mono hb.size)
      clear hrow hsz hb hb2 c0
      go_upto_region 6 with fail
      have q0 : Row (w2.alloc (.cells (v8 (zer 39)) 5)) w.heap.size 25 N := r0.alloc _
      obtain ⟨g, hg⟩ : ∃ g, g = w2.heap.size := ⟨_, rfl⟩
      have q1 : Row (w2.alloc (.cells (v8 (zer 39)) 5)) g 5 (v8 (zer 39)) := Row.newAt _ _ _ _ hg
      have qb : Below w.heap.size w (w2.alloc (.cells (v8 (zer 39)) 5)) := b2.alloc b2.size _
      have hgB : w.heap.size < g := by rw [hg]; exact r0.lt
      rw [← hg]
      change Code.wp _ _ _ _ (w2.alloc (.cells (v8 (zer 39)) 5))
      generalize w2.alloc (.cells (v8 (zer 39)) 5) = w3 at q0 q1 qb ⊢
      clear r0 b2 hmk hg
      have c0 : w3.cell? ⟨w.heap.size, 0, none⟩ = some (.int .i64 1) := (hr' _ q0).c0
      have c2 : w3.cell? ⟨w.heap.size, 2, none⟩ = some (.int .i64 lv) := (hr' _ q0).c2
      have d0 := q1.cell8 (j := 0) (by decide)
      have d1 := q1.cell8 (j := 1) (by decide)
      have d6 := q1.cell8 (j := 6) (by decide)
      have f0 := q1.frozen (j := 0)
      have f1 := q1.frozen (j := 1)
      have f6 := q1.frozen (j := 6)
      go_upto_region 7 with fail
      have s0 := ((q0.setOther (a := ⟨g, 0, none⟩) (by simp; omega) (.int .u8 105)).setOther (a := ⟨g, 1, none⟩) (by simp; omega) (.int .u8 1)).setOther (a := ⟨g, 6, none⟩) (by simp; omega) (.int .u8 lv)
      have s1 := ((q1.set8 0 105).set8 1 1).set8 6 lv
      have sb := ((qb.setCell (p := ⟨g, 0, none⟩) (by simp; omega) (.int .u8 105)).setCell (p := ⟨g, 1, none⟩) (by simp; omega) (.int .u8 1)).setCell (p := ⟨g, 6, none⟩) (by simp; omega) (.int .u8 lv)
      have eL : (((zer 39).set 0 105).set 1 1).set 6 lv = [105, 1, 0, 0, 0, 0, lv] ++ zer 32 := rfl
      rw [eL] at s1
      change Code.wp _ _ _ _ (((w3.setCell ⟨g, 0, none⟩ (.int .u8 105)).setCell ⟨g, 1, none⟩ (.int .u8 1)).setCell ⟨g, 6, none⟩ (.int .u8 lv))
      generalize ((w3.setCell ⟨g, 0, none⟩ (.int .u8 105)).setCell ⟨g, 1, none⟩ (.int .u8 1)).setCell ⟨g, 6, none⟩ (.int .u8 lv) = w4 at s0 s1 sb ⊢
      clear q0 q1 qb c0 c2 d0 d1 d6 f0 f1 f6 eL
      have c1 : ∀ k, (w4.drewN k).cell? ⟨w.heap.size, 1, none⟩ = some (.int .i64 s) := fun k => (hr' _ (s0.drewN k)).c1
      refine wp_region_quiet_tail 4 (by kernel_rfl) (by kernel_rfl) ?_
      simp only [List.take_succ_cons, List.take_zero, List.drop_succ_cons, List.drop_zero]
      repeat (go_big_quiet_step (fail))
      refine wpQuiet_nil ?_
      rintro _ ⟨nq, rfl⟩
      replace s0 := s0.drewN nq
      replace s1 := s1.drewN nq
      replace sb := below_drewN sb nq
      clear c1
      generalize w4.drewN nq = w5 at s0 s1 sb ⊢
      have hp := hput _ g _ s1 (by simp)
      go_upto_region 8 with (go_at_call 32; (with_reducible refine Calls.mono hp ?_); rintro e w6 ⟨rfl, t1, hf6⟩)
      have t0 := s0.fr hf6 (by simp; omega)
      have tb : Below w.heap.size w w6 := sb.trans (hf6.below (by simp; omega) sb.size)
      have e2 : spl ([105, 1, 0, 0, 0, 0, lv] ++ zer 32) 2 (n4 s) = ([105, 1] ++ n4 s ++ [lv]) ++ List.replicate 32 0 := rfl
      rw [e2] at t1
      clear hp hput s0 s1 sb e2 hf6
      have hT := (hr' _ t0).top
      simp only at hT
      refine wp_region_quiet_tail 4 (by kernel_rfl) (by kernel_rfl) ?_
      simp only [List.take_succ_cons, List.take_zero, List.drop_succ_cons, List.drop_zero]
      repeat (go_big_quiet_step (fail))
      refine wpQuiet_nil ?_
      rintro _ ⟨nq, rfl⟩
      refine copy8 (w := w6.drewN nq) (.tmp 35) (.tmp 37) 27 27 (by rfl) (by rfl) 5 Try.underlying27 (by kernel_rfl) (some ⟨g, 7, none⟩) (some ⟨w.heap.size, 3, none⟩) 32 32 32 32 (by rfl) (by rfl) g 7 (([105, 1] ++ n4 s ++ [lv]) ++ List.replicate 32 0) 5 (t1.drewN nq) tp (by rw [ht]; rfl) (fun _ => rfl) hT (by rw [ht]; simp [n4_len]) ?_
      simp only [Act.put, List.setIfInBounds_toArray, List.set_cons_succ, List.set_cons_zero]
      have hsp : spl (([105, 1] ++ n4 s ++ [lv]) ++ List.replicate 32 0) 7 tp = ([105, 1] ++ n4 s ++ [lv]) ++ tp := spl_end ([105, 1] ++ n4 s ++ [lv]) tp 32 ht.symm
      rw [hsp, ← henc]
      have v1 := (t1.drewN nq).setRow (v8 (encN ⟨1, s, lv, tp⟩))
      have vb := below_setRow (g := g) (below_drewN tb nq) (by omega) (v8 (encN ⟨1, s, lv, tp⟩))
      generalize (w6.drewN nq).setRow g (v8 (encN ⟨1, s, lv, tp⟩)) = w7 at v1 vb ⊢
      clear t0 t1 tb hsp hT henc
      have hlen : (encN ⟨1, s, lv, tp⟩).length = 39 := encN_len ht
      go_wp2
      go_ret2
      exact ⟨some ⟨g, 0, none⟩, 39, by rw [hlen]; rfl, by rw [hlen]; exact (own8_row v1 hlen (by unfold maxLen; omega)).mono (by omega), vb⟩
  · clear h0
    cases O with
    | false =>
      rw [if_neg (by decide)] at hE
      subst hE
      obtain rfl := hbad (by decide)
      clear henc hput hok0 hlv
      go_wp2_with (first | (refine wpList_load_row (by rfl) 25 (.tmp 1) (by rfl) w.heap.size (by rfl) 25 N (0, 0) _ hrow Try.underlying25 rfl hi25 ?_) | (go_at_call 31; (with_reducible refine Calls.mono (hsz _) ?_); rintro e w2 ⟨rfl, hb2⟩))
      go_ret2
      exact ⟨none, 0, rfl, own8_none _ _, hb.trans (hb2.mono hb.size)⟩
    | true =>
      rw [if_pos rfl] at hE
      subst hE
      obtain rfl := hok0 rfl
      obtain ⟨hv1, hs0, hs1⟩ := hlv rfl
      have hlr : 0 ≤ lv ∧ lv ≤ 5 := by rw [hv1]; exact lvl_range s
      clear hbad hok0 hlv hv1
      go_upto_region 5 with (first | (refine wpList_load_row (by rfl) 25 (.tmp 1) (by rfl) w.heap.size (by rfl) 25 N (0, 0) _ hrow Try.underlying25 rfl hi25 ?_) | (go_at_call 31; (with_reducible refine Calls.mono (hsz _) ?_); rintro e w2 ⟨rfl, hb2⟩))
      have r0 : Row w2 w.heap.size 25 N := hrow.below hb2 hrow.lt
      have b2 := hb.trans (hb2.mono hb.size)
      clear hrow hsz hb hb2 c0
      go_upto_region 6 with fail
      have q0 : Row (w2.alloc (.cells (v8 (zer 39)) 5)) w.heap.size 25 N := r0.alloc _
      obtain ⟨g, hg⟩ : ∃ g, g = w2.heap.size := ⟨_, rfl⟩
      have q1 : Row (w2.alloc (.cells (v8 (zer 39)) 5)) g 5 (v8 (zer 39)) := Row.newAt _ _ _ _ hg
      have qb : Below w.heap.size w (w2.alloc (.cells (v8 (zer 39)) 5)) := b2.alloc b2.size _
      have hgB : w.heap.size < g := by rw [hg]; exact r0.lt
      rw [← hg]
      change Code.wp _ _ _ _ (w2.alloc (.cells (v8 (zer 39)) 5))
      generalize w2.alloc (.cells (v8 (zer 39)) 5) = w3 at q0 q1 qb ⊢
      clear r0 b2 hmk hg
      have c0 : w3.cell? ⟨w.heap.size, 0, none⟩ = some (.int .i64 2) := (hr' _ q0).c0
      have c2 : w3.cell? ⟨w.heap.size, 2, none⟩ = some (.int .i64 lv) := (hr' _ q0).c2
      have d0 := q1.cell8 (j := 0) (by decide)
      have d1 := q1.cell8 (j := 1) (by decide)
      have d6 := q1.cell8 (j := 6) (by decide)
      have f0 := q1.frozen (j := 0)
      have f1 := q1.frozen (j := 1)
      have f6 := q1.frozen (j := 6)
      go_upto_region 7 with fail
      have s0 := ((q0.setOther (a := ⟨g, 0, none⟩) (by simp; omega) (.int .u8 105)).setOther (a := ⟨g, 1, none⟩) (by simp; omega) (.int .u8 2)).setOther (a := ⟨g, 6, none⟩) (by simp; omega) (.int .u8 lv)
      have s1 := ((q1.set8 0 105).set8 1 2).set8 6 lv
      have sb := ((qb.setCell (p := ⟨g, 0, none⟩) (by simp; omega) (.int .u8 105)).setCell (p := ⟨g, 1, none⟩) (by simp; omega) (.int .u8 2)).setCell (p := ⟨g, 6, none⟩) (by simp; omega) (.int .u8 lv)
      have eL : (((zer 39).set 0 105).set 1 2).set 6 lv = [105, 2, 0, 0, 0, 0, lv] ++ zer 32 := rfl
      rw [eL] at s1
      change Code.wp _ _ _ _ (((w3.setCell ⟨g, 0, none⟩ (.int .u8 105)).setCell ⟨g, 1, none⟩ (.int .u8 2)).setCell ⟨g, 6, none⟩ (.int .u8 lv))
      generalize ((w3.setCell ⟨g, 0, none⟩ (.int .u8 105)).setCell ⟨g, 1, none⟩ (.int .u8 2)).setCell ⟨g, 6, none⟩ (.int .u8 lv) = w4 at s0 s1 sb ⊢
      clear q0 q1 qb c0 c2 d0 d1 d6 f0 f1 f6 eL
      have c1 : ∀ k, (w4.drewN k).cell? ⟨w.heap.size, 1, none⟩ = some (.int .i64 s) := fun k => (hr' _ (s0.drewN k)).c1
      refine wp_region_quiet_tail 4 (by kernel_rfl) (by kernel_rfl) ?_
      simp only [List.take_succ_cons, List.take_zero, List.drop_succ_cons, List.drop_zero]
      repeat (go_big_quiet_step (fail))
      refine wpQuiet_nil ?_
      rintro _ ⟨nq, rfl⟩
      replace s0 := s0.drewN nq
      replace s1 := s1.drewN nq
      replace sb := below_drewN sb nq
      clear c1
      generalize w4.drewN nq = w5 at s0 s1 sb ⊢
      have hp := hput _ g _ s1 (by simp)
      go_upto_region 8 with (go_at_call 32; (with_reducible refine Calls.mono hp ?_); rintro e w6 ⟨rfl, t1, hf6⟩)
      have t0 := s0.fr hf6 (by simp; omega)
      have tb : Below w.heap.size w w6 := sb.trans (hf6.below (by simp; omega) sb.size)
      have e2 : spl ([105, 2, 0, 0, 0, 0, lv] ++ zer 32) 2 (n4 s) = ([105, 2] ++ n4 s ++ [lv]) ++ List.replicate 32 0 := rfl
      rw [e2] at t1
      clear hp hput s0 s1 sb e2 hf6
      have hT := (hr' _ t0).top
      simp only at hT
      refine wp_region_quiet_tail 4 (by kernel_rfl) (by kernel_rfl) ?_
      simp only [List.take_succ_cons, List.take_zero, List.drop_succ_cons, List.drop_zero]
      repeat (go_big_quiet_step (fail))
      refine wpQuiet_nil ?_
      rintro _ ⟨nq, rfl⟩
      refine copy8 (w := w6.drewN nq) (.tmp 35) (.tmp 37) 27 27 (by rfl) (by rfl) 5 Try.underlying27 (by kernel_rfl) (some ⟨g, 7, none⟩) (some ⟨w.heap.size, 3, none⟩) 32 32 32 32 (by rfl) (by rfl) g 7 (([105, 2] ++ n4 s ++ [lv]) ++ List.replicate 32 0) 5 (t1.drewN nq) tp (by rw [ht]; rfl) (fun _ => rfl) hT (by rw [ht]; simp [n4_len]) ?_
      simp only [Act.put, List.setIfInBounds_toArray, List.set_cons_succ, List.set_cons_zero]
      have hsp : spl (([105, 2] ++ n4 s ++ [lv]) ++ List.replicate 32 0) 7 tp = ([105, 2] ++ n4 s ++ [lv]) ++ tp := spl_end ([105, 2] ++ n4 s ++ [lv]) tp 32 ht.symm
      rw [hsp, ← henc]
      have v1 := (t1.drewN nq).setRow (v8 (encN ⟨2, s, lv, tp⟩))
      have vb := below_setRow (g := g) (below_drewN tb nq) (by omega) (v8 (encN ⟨2, s, lv, tp⟩))
      generalize (w6.drewN nq).setRow g (v8 (encN ⟨2, s, lv, tp⟩)) = w7 at v1 vb ⊢
      clear t0 t1 tb hsp hT henc
      have hlen : (encN ⟨2, s, lv, tp⟩).length = 39 := encN_len ht
      go_wp2
      go_ret2
      exact ⟨some ⟨g, 0, none⟩, 39, by rw [hlen]; rfl, by rw [hlen]; exact (own8_row v1 hlen (by unfold maxLen; omega)).mono (by omega), vb⟩
end Go.Proofs.Ytgcffdnbihfghaa
