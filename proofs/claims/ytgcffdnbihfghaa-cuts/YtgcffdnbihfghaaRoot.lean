/- isVersion and Root: a signed root's block, where it may be written. No old memory turns. -/
import Derived.Test.YtgcffdnbihfghaaInode
namespace Go.Proofs.Ytgcffdnbihfghaa
open Go Go.RowKit
set_option maxRecDepth 20000 in
set_option maxHeartbeats 1000000 in
theorem version_any (v : Int) (w : World) (_h0 : 1 ≤ v) (_h1 : v ≤ 2147483647) : Calls Try.prog 45 #[.int .i64 v] w fun e w' => e = .returned (.bool true) ∧ w' = w := by
  go_enter Try.func45, Try.ntmps45
  go_wp2
  go_ret
  exact ⟨rfl, rfl⟩
/-- A root's cells. -/
def rc (pub : Value) (ver : Int) (node : List Int) (sig : Value) : Array Value := (([pub, .int .i64 ver] : List Value) ++ (node.map (Value.int .u8) ++ [sig])).toArray
theorem rc_size {pub sig : Value} {ver : Int} {node : List Int} (h : node.length = 32) : (rc pub ver node sig).size = 35 := by simp [rc, h]
theorem rc0 (pub sig : Value) (ver : Int) (node : List Int) : (rc pub ver node sig)[0]? = some pub := by simp [rc]
theorem rc1 (pub sig : Value) (ver : Int) (node : List Int) : (rc pub ver node sig)[1]? = some (.int .i64 ver) := by simp [rc]
theorem rc2 (pub sig : Value) (ver : Int) (node : List Int) {j : Nat} (hj : j < node.length) : (rc pub ver node sig)[2 + j]? = some (.int .u8 (gi node j)) := by
  simp only [rc, List.getElem?_toArray]
  rw [List.getElem?_append_right (by simp), List.getElem?_append_left (by simp; omega)]
  have : 2 + j - 2 = j := by omega
  simp [gi, this, hj]
theorem rc34 (pub sig : Value) (ver : Int) (node : List Int) (h : node.length = 32) : (rc pub ver node sig)[34]? = some sig := by
  simp only [rc, List.getElem?_toArray]
  rw [List.getElem?_append_right (by simp), List.getElem?_append_right (by simp [h])]; simp [h]
def n2 (q : Int) : List Int := [q / 256 % 256, q % 256]
def encR (pub : List Int) (ver : Int) (node sig : List Int) : List Int := [114] ++ pub ++ n4 ver ++ node ++ n2 (sig.length : Int) ++ sig
theorem encR_len {pub node sig : List Int} {ver : Int} (hp : pub.length = 56) (hn : node.length = 32) : (encR pub ver node sig).length = 95 + sig.length := by simp [encR, n4_len, n2, hp, hn]; omega
theorem bytesK_two (n : Int) : bytesK n 2 = n2 n := by
  have e0 : byK n 2 0 = n / 256 % 256 := rfl
  have e1 : byK n 2 1 = n % 256 := by show n / 2 ^ 0 % 256 = _; rw [Int.pow_zero, Int.ediv_one]
  show [byK n 2 0, byK n 2 1] = _
  rw [e0, e1]; rfl

set_option maxRecDepth 20000 in
set_option maxHeartbeats 1000000 in
theorem root_any (pub node sig : List Int) (ver : Int) (pp ps : Option Addr) (cp cs : Nat) (w : World) (hp : pub.length = 56) (hn : node.length = 32) (hsl : sig.length ≤ 5000) (h0 : 1 ≤ ver) (h1 : ver ≤ 2147483647) (hbp : Bytes w pp pub) (hbs : Bytes w ps sig) :
    Calls Try.prog 28 #[.agg (rc (.slice pp 56 cp) ver node (.slice ps sig.length cs))] w (Gives w (encR pub ver node sig) 0) := by
  have hb : Below w.heap.size w (w.alloc (.cells (rc (.slice pp 56 cp) ver node (.slice ps sig.length cs)) 70)) := (Below.refl _ _).alloc (Nat.le_refl _) _
  have hrow : Row (w.alloc (.cells (rc (.slice pp 56 cp) ver node (.slice ps sig.length cs)) 70)) w.heap.size 70 (rc (.slice pp 56 cp) ver node (.slice ps sig.length cs)) := Row.new _ _ _
  have hLl := encR_len (sig := sig) (ver := ver) hp hn
  have hLd : encR pub ver node sig = [114] ++ pub ++ n4 ver ++ node ++ n2 (sig.length : Int) ++ sig := rfl
  obtain ⟨sl, hsl'⟩ : ∃ sl, sig.length = sl := ⟨_, rfl⟩
  rw [hsl'] at hb hrow hsl hLl hLd ⊢
  have hv := fun wx => version_any ver wx h0 h1
  have hmk : ∀ wx, (Instr.makeSlice 27 (.int .i64 (95 + (sl : Int))) (.int .i64 (95 + (sl : Int)))).run Try.prog wx = .ok (.slice (some ⟨wx.heap.size, 0, none⟩) (95 + sl) (95 + sl)) (wx.alloc (.cells (v8 (zer (95 + sl))) 5)) := fun wx => make8 (95 + sl) _ (by omega) (by omega) wx
  have kc : ∀ wx, Row wx w.heap.size 70 (rc (.slice pp 56 cp) ver node (.slice ps sl cs)) → wx.cell? ⟨w.heap.size, 0, none⟩ = some (.slice pp 56 cp) ∧ wx.cell? ⟨w.heap.size, 1, none⟩ = some (.int .i64 ver) ∧ Bytes wx (some ⟨w.heap.size, 2, none⟩) node ∧ wx.cell? ⟨w.heap.size, 34, none⟩ = some (.slice ps sl cs) := fun wx h =>
    ⟨h.cell.trans (rc0 _ _ _ _), h.cell.trans (rc1 _ _ _ _), fun _ => ⟨_, _, rfl, fun j hj => h.cell.trans (rc2 _ _ _ _ hj)⟩, h.cell.trans (rc34 _ _ _ _ hn)⟩
  generalize rc (.slice pp 56 cp) ver node (.slice ps sl cs) = N at *
  generalize encR pub ver node sig = L at *
  obtain ⟨a0, a1, a2, a34⟩ := kc _ hrow
  go_enter Try.func28, Try.ntmps28
  go_upto_region 6 with (go_at_call 45; (with_reducible refine Calls.mono (hv _) ?_); rintro e w2 ⟨rfl, hw⟩; obtain rfl := hw.symm; clear hw)
  have q0 : Row ((w.alloc (.cells N 70)).alloc (.cells (v8 (zer (95 + sl))) 5)) w.heap.size 70 N := hrow.alloc _
  have q1 : Row ((w.alloc (.cells N 70)).alloc (.cells (v8 (zer (95 + sl))) 5)) (w.heap.size + 1) 5 (v8 (zer (95 + sl))) := Row.newAt _ _ _ _ (by simp)
  have qb : Below w.heap.size w ((w.alloc (.cells N 70)).alloc (.cells (v8 (zer (95 + sl))) 5)) := hb.alloc (by simp) _
  obtain ⟨g, hg⟩ : ∃ g, w.heap.size + 1 = g := ⟨_, rfl⟩
  have hgB : w.heap.size < g := by omega
  change Code.wp _ _ _ _ ((w.alloc (.cells N 70)).alloc (.cells (v8 (zer (95 + sl))) 5))
  generalize (w.alloc (.cells N 70)).alloc (.cells (v8 (zer (95 + sl))) 5) = w2 at q0 q1 qb ⊢
  obtain ⟨Z, hZ⟩ : ∃ Z, 95 + sl = Z := ⟨_, rfl⟩
  have hZ' : Hid (95 + sl = Z) := ⟨hZ⟩
  have hZ2 : 95 ≤ Z := by omega
  have hZ3 : Z ≤ 5095 := by omega
  have eZ : zer (95 + sl) = [0] ++ zer (94 + sl) := by unfold zer; rw [show 95 + sl = (94 + sl) + 1 by omega]; rfl
  rw [hg] at q1
  simp only [hg, hZ] at q1 ⊢
  have e1 : (zer Z).set 0 114 = [114] ++ zer (94 + sl) := by rw [← hZ, eZ]; rfl
  have hlz : (zer Z).length = Z := zer_len Z
  clear hrow hb hmk hv hg hZ a0 a1 a2 a34 eZ
  have c0 := q1.cell8 (j := 0) (by omega)
  have f0 := q1.frozen (j := 0)
  go_upto_region 7 with fail
  have r0 := q0.setOther (a := ⟨g, 0, none⟩) (by simp; omega) (.int .u8 114)
  have r1 := q1.set8 0 114
  have rb := qb.setCell (p := ⟨g, 0, none⟩) (by simp; omega) (.int .u8 114)
  rw [e1] at r1
  change Code.wp _ _ _ _ (w2.setCell ⟨g, 0, none⟩ (.int .u8 114))
  generalize w2.setCell ⟨g, 0, none⟩ (.int .u8 114) = w3 at r0 r1 rb ⊢
  clear q0 q1 qb c0 f0 e1 hlz
  -- the public key
  have k0 : ∀ k, (w3.drewN k).cell? ⟨w.heap.size, 0, none⟩ = some (.slice pp 56 cp) := fun k => (kc _ (r0.drewN k)).1
  refine wp_region_quiet_tail 4 (by kernel_rfl) (by kernel_rfl) ?_
  simp only [List.take_succ_cons, List.take_zero, List.drop_succ_cons, List.drop_zero]
  repeat (go_big_quiet_step (fail))
  refine wpQuiet_nil ?_
  rintro _ ⟨nq, rfl⟩
  clear k0
  replace r0 := r0.drewN nq
  replace r1 := r1.drewN nq
  replace rb := below_drewN rb nq
  generalize w3.drewN nq = w4 at r0 r1 rb ⊢
  have hl1 : ([114] ++ zer (94 + sl)).length = Z := by have := hZ'.out; simp [zer_len]; omega
  have hs1 : spl ([114] ++ zer (94 + sl)) 1 pub = ([114] ++ pub) ++ zer (38 + sl) := by
    have := spl_mid [114] pub (94 + sl)
    rw [hp] at this
    simp only [zer]
    rw [show 38 + sl = 94 + sl - 56 by omega]
    exact this
  refine copy8 (w := w4) (.tmp 27) (.tmp 29) 27 27 (by rfl) (by rfl) 5 Try.underlying27 (by kernel_rfl) (some ⟨g, 1, none⟩) pp (Z - 1) (Z - 1) 56 cp (by rfl) (by rfl) g 1 ([114] ++ zer (94 + sl)) 5 r1 pub (by rw [hp]; omega) (fun _ => rfl) (hbp.below rb) (by rw [hl1, hp]; omega) ?_
  simp only [Act.put, List.setIfInBounds_toArray, List.set_cons_succ, List.set_cons_zero]
  rw [hs1]
  have s0 := r0.setRowOther (g := g) (by omega) (v8 (([114] ++ pub) ++ zer (38 + sl)))
  have s1 := r1.setRow (v8 (([114] ++ pub) ++ zer (38 + sl)))
  have sb := below_setRow (g := g) rb (by omega) (v8 (([114] ++ pub) ++ zer (38 + sl)))
  generalize w4.setRow g (v8 (([114] ++ pub) ++ zer (38 + sl))) = w5 at s0 s1 sb ⊢
  clear r0 r1 rb hs1 hl1
  -- the version
  have hl2 : (([114] ++ pub) ++ zer (38 + sl)).length = Z := by have := hZ'.out; simp [zer_len, hp]; omega
  have hs2 : spl (([114] ++ pub) ++ zer (38 + sl)) 57 (n4 ver) = ([114] ++ pub ++ n4 ver) ++ zer (34 + sl) := by
    have := spl_mid ([114] ++ pub) (n4 ver) (38 + sl)
    have hA : ([114] ++ pub : List Int).length = 57 := by simp [hp]
    rw [hA, n4_len] at this
    simp only [zer]
    rw [show 34 + sl = 38 + sl - 4 by omega]
    exact this
  have hput := put_any (([114] ++ pub) ++ zer (38 + sl)) ver g 57 4 (Z - 57) 5
  rw [bytesK_four, hs2, hl2] at hput
  go_upto_region 8 with fail
  have k1 : ∀ k, (w5.drewN k).cell? ⟨w.heap.size, 1, none⟩ = some (.int .i64 ver) := fun k => (kc _ (s0.drewN k)).2.1
  refine wp_region_quiet_tail 4 (by kernel_rfl) (by kernel_rfl) ?_
  simp only [List.take_succ_cons, List.take_zero, List.drop_succ_cons, List.drop_zero]
  repeat (go_big_quiet_step (fail))
  refine wpQuiet_nil ?_
  rintro _ ⟨nq, rfl⟩
  clear k1
  replace s0 := s0.drewN nq
  replace s1 := s1.drewN nq
  replace sb := below_drewN sb nq
  generalize w5.drewN nq = w6 at s0 s1 sb ⊢
  have hp2 := hput w6 s1 (by omega) (by omega)
  go_upto_region 9 with (go_at_call 32; (with_reducible refine Calls.mono hp2 ?_); rintro e w7 ⟨rfl, t1, hf7⟩)
  have t0 := s0.fr hf7 (by simp; omega)
  have tb : Below w.heap.size w w7 := sb.trans (hf7.below (by simp; omega) sb.size)
  clear hput hp2 s0 s1 sb hf7 hs2 hl2
  -- the node
  have hl3 : (([114] ++ pub ++ n4 ver) ++ zer (34 + sl)).length = Z := by have := hZ'.out; simp [zer_len, hp, n4_len]; omega
  have hs3 : spl (([114] ++ pub ++ n4 ver) ++ zer (34 + sl)) 61 node = ([114] ++ pub ++ n4 ver ++ node) ++ zer (2 + sl) := by
    have := spl_mid ([114] ++ pub ++ n4 ver) node (34 + sl)
    have hA : ([114] ++ pub ++ n4 ver : List Int).length = 61 := by simp [hp, n4_len]
    rw [hA, hn] at this
    simp only [zer]
    rw [show 2 + sl = 34 + sl - 32 by omega]
    exact this
  refine wp_region_quiet_tail 4 (by kernel_rfl) (by kernel_rfl) ?_
  simp only [List.take_succ_cons, List.take_zero, List.drop_succ_cons, List.drop_zero]
  repeat (go_big_quiet_step (fail))
  refine wpQuiet_nil ?_
  rintro _ ⟨nq, rfl⟩
  replace t0 := t0.drewN nq
  replace t1 := t1.drewN nq
  replace tb := below_drewN tb nq
  generalize w7.drewN nq = w8 at t0 t1 tb ⊢
  have kn := (kc _ t0).2.2.1
  refine copy8 (w := w8) (.tmp 37) (.tmp 39) 27 27 (by rfl) (by rfl) 5 Try.underlying27 (by kernel_rfl) (some ⟨g, 61, none⟩) (some ⟨w.heap.size, 2, none⟩) (Z - 61) (Z - 61) 32 32 (by rfl) (by rfl) g 61 (([114] ++ pub ++ n4 ver) ++ zer (34 + sl)) 5 t1 node (by rw [hn]; omega) (fun _ => rfl) kn (by rw [hl3, hn]; omega) ?_
  simp only [Act.put, List.setIfInBounds_toArray, List.set_cons_succ, List.set_cons_zero]
  rw [hs3]
  have s0 := t0.setRowOther (g := g) (by omega) (v8 (([114] ++ pub ++ n4 ver ++ node) ++ zer (2 + sl)))
  have s1 := t1.setRow (v8 (([114] ++ pub ++ n4 ver ++ node) ++ zer (2 + sl)))
  have sb := below_setRow (g := g) tb (by omega) (v8 (([114] ++ pub ++ n4 ver ++ node) ++ zer (2 + sl)))
  generalize w8.setRow g (v8 (([114] ++ pub ++ n4 ver ++ node) ++ zer (2 + sl))) = w9 at s0 s1 sb ⊢
  clear t0 t1 tb hs3 hl3 kn
  -- the signature's length
  have hl4 : (([114] ++ pub ++ n4 ver ++ node) ++ zer (2 + sl)).length = Z := by have := hZ'.out; simp [zer_len, hp, hn, n4_len]; omega
  have hs4 : spl (([114] ++ pub ++ n4 ver ++ node) ++ zer (2 + sl)) 93 (n2 (sl : Int)) = ([114] ++ pub ++ n4 ver ++ node ++ n2 (sl : Int)) ++ zer sl := by
    have := spl_mid ([114] ++ pub ++ n4 ver ++ node) (n2 (sl : Int)) (2 + sl)
    have hA : ([114] ++ pub ++ n4 ver ++ node : List Int).length = 93 := by simp [hp, hn, n4_len]
    have hA2 : (n2 (sl : Int)).length = 2 := rfl
    rw [hA, hA2] at this
    simp only [zer]
    rw [show 2 + sl - 2 = sl by omega] at this
    exact this
  have hput := put_any (([114] ++ pub ++ n4 ver ++ node) ++ zer (2 + sl)) (sl : Int) g 93 2 (Z - 93) 5
  rw [bytesK_two, hs4, hl4] at hput
  go_upto_region 10 with fail
  have k2 : ∀ k, (w9.drewN k).cell? ⟨w.heap.size, 34, none⟩ = some (.slice ps sl cs) := fun k => (kc _ (s0.drewN k)).2.2.2
  refine wp_region_quiet_tail 5 (by kernel_rfl) (by kernel_rfl) ?_
  simp only [List.take_succ_cons, List.take_zero, List.drop_succ_cons, List.drop_zero]
  repeat (go_big_quiet_step (fail))
  refine wpQuiet_nil ?_
  rintro _ ⟨nq, rfl⟩
  clear k2
  replace s0 := s0.drewN nq
  replace s1 := s1.drewN nq
  replace sb := below_drewN sb nq
  generalize w9.drewN nq = w10 at s0 s1 sb ⊢
  have hp2 := hput w10 s1 (by omega) (by omega)
  go_upto_region 11 with (go_at_call 32; (with_reducible refine Calls.mono hp2 ?_); rintro e w11 ⟨rfl, t1, hf11⟩)
  have t0 := s0.fr hf11 (by simp; omega)
  have tb : Below w.heap.size w w11 := sb.trans (hf11.below (by simp; omega) sb.size)
  clear hput hp2 s0 s1 sb hf11 hs4 hl4
  -- the signature
  have hl5 : (([114] ++ pub ++ n4 ver ++ node ++ n2 (sl : Int)) ++ zer sl).length = Z := by have := hZ'.out; simp [zer_len, hp, hn, n4_len, n2]; omega
  have hs5 : spl (([114] ++ pub ++ n4 ver ++ node ++ n2 (sl : Int)) ++ zer sl) 95 sig = L := by
    have := spl_end ([114] ++ pub ++ n4 ver ++ node ++ n2 (sl : Int)) sig sl hsl'.symm
    have hA : ([114] ++ pub ++ n4 ver ++ node ++ n2 (sl : Int) : List Int).length = 95 := by simp [hp, hn, n4_len, n2]
    rw [hA] at this
    rw [hLd]; exact this
  have k3 : ∀ k, (w11.drewN k).cell? ⟨w.heap.size, 34, none⟩ = some (.slice ps sl cs) := fun k => (kc _ (t0.drewN k)).2.2.2
  have hLZ : L.length = Z := by have := hZ'.out; omega
  by_cases hz : Z = 95
  · subst hz
    refine wp_region_quiet_tail 4 (by kernel_rfl) (by kernel_rfl) ?_
    simp only [List.take_succ_cons, List.take_zero, List.drop_succ_cons, List.drop_zero]
    repeat (go_big_quiet_step (fail))
    refine wpQuiet_nil ?_
    rintro _ ⟨nq, rfl⟩
    replace tb := below_drewN tb nq
    refine copy8 (w := w11.drewN nq) (.tmp 48) (.tmp 50) 27 27 (by rfl) (by rfl) 5 Try.underlying27 (by kernel_rfl) _ ps 0 0 sl cs (by rfl) (by rfl) g 95 (([114] ++ pub ++ n4 ver ++ node ++ n2 (sl : Int)) ++ zer sl) 5 (t1.drewN nq) sig (by have := hZ'.out; omega) (fun h => absurd h (by have := hZ'.out; omega)) (hbs.below tb) (by rw [hl5, hsl']; have := hZ'.out; omega) ?_
    simp only [Act.put, List.setIfInBounds_toArray, List.set_cons_succ, List.set_cons_zero]
    rw [hs5]
    have v1 := (t1.drewN nq).setRow (v8 L)
    have vb := below_setRow (g := g) tb (by omega) (v8 L)
    generalize (w11.drewN nq).setRow g (v8 L) = w12 at v1 vb ⊢
    clear t0 t1 tb hs5 hl5 k3 hLd
    go_wp2
    go_ret2
    exact ⟨some ⟨g, 0, none⟩, 95, by rw [hLZ]; rfl, by rw [hLZ]; exact (own8_row v1 hLZ (by unfold maxLen; omega)).mono (by omega), vb⟩
  · refine wp_region_quiet_tail 4 (by kernel_rfl) (by kernel_rfl) ?_
    simp only [List.take_succ_cons, List.take_zero, List.drop_succ_cons, List.drop_zero]
    repeat (go_big_quiet_step (fail))
    refine wpQuiet_nil ?_
    rintro _ ⟨nq, rfl⟩
    replace tb := below_drewN tb nq
    refine copy8 (w := w11.drewN nq) (.tmp 48) (.tmp 50) 27 27 (by rfl) (by rfl) 5 Try.underlying27 (by kernel_rfl) (some ⟨g, 95, none⟩) ps (Z - 95) (Z - 95) sl cs (by rfl) (by rfl) g 95 (([114] ++ pub ++ n4 ver ++ node ++ n2 (sl : Int)) ++ zer sl) 5 (t1.drewN nq) sig (by have := hZ'.out; omega) (fun _ => rfl) (hbs.below tb) (by rw [hl5, hsl']; have := hZ'.out; omega) ?_
    simp only [Act.put, List.setIfInBounds_toArray, List.set_cons_succ, List.set_cons_zero]
    rw [hs5]
    have v1 := (t1.drewN nq).setRow (v8 L)
    have vb := below_setRow (g := g) tb (by omega) (v8 L)
    generalize (w11.drewN nq).setRow g (v8 L) = w12 at v1 vb ⊢
    clear t0 t1 tb hs5 hl5 k3 hLd
    go_wp2
    go_ret2
    exact ⟨some ⟨g, 0, none⟩, Z, by rw [hLZ]; rfl, by rw [hLZ]; exact (own8_row v1 hLZ (by unfold maxLen; omega)).mono (by omega), vb⟩
end Go.Proofs.Ytgcffdnbihfghaa
