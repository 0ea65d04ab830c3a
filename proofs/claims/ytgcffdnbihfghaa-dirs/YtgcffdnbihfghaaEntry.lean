/- One entry read from bytes: what entry answers. No old memory turns. -/
import Derived.Test.YtgcffdnbihfghaaEnts
namespace Go.Proofs.Ytgcffdnbihfghaa
open Go Go.RowKit
def rdE (bs : List Int) (k : Nat) : Ent := ⟨strOfNums ((bs.drop 1).take k), bs.drop (k + 1)⟩
set_option maxRecDepth 20000 in
theorem size_any (k : Int) (w : World) (h0 : 0 ≤ k) (h1 : k ≤ 1000000) : Calls Try.prog 42 #[.int .i64 k] w fun e w' => e = .returned (.int .i64 (k + 33)) ∧ w' = w := by
  go_enter Try.func42, Try.ntmps42
  go_wp2
  go_ret
  exact ⟨by simp; omega, rfl⟩
/-- 'copy' of 32 bytes onto an entry's node. -/
theorem copyE {P : Program} {w : World} {ops : Array Oper} {rest : List Oper} {o : Oper} {a : Act} {Q : Exit → Act → World → Prop} (d s : Operand) (dT sT : TypeId)
    (ho : o.op = .call { callee := .builtin .copy, args := #[d, s], argTypes := #[dT, sT] }) (hgd : o.guard = none) (elem : TypeId) (hu : P.underlying dT = some (.slice elem)) (hsz : (P.info? elem).map (·.size) = some 1)
    (b ob sCap : Nat) (g : Nat) (hd : a.eval d = .slice (some ⟨g, 1, none⟩) 32 32) (hs : a.eval s = .slice (some ⟨b, ob, none⟩) 32 sCap)
    (S : ByteArray) (Z : List Int) (hZ : Z.length = 32) (t : TypeId) (hg : Row w g t (en ⟨S, Z⟩)) (N : List Int) (hN : N.length = 32) (hsp : Bytes w (some ⟨b, ob, none⟩) N)
    (h : wpList P ops Q rest (a.put o.dst (.int .i64 32)) (w.setRow g (en ⟨S, N⟩))) : wpList P ops Q (o :: rest) a w := by
  obtain ⟨b', ob', hb, hsrc⟩ := hsp (by omega)
  cases hb
  refine wpList_copy_own hgd d s dT sT ho elem hu hsz g 1 32 32 ⟨b, ob, none⟩ 32 sCap hd hs (en ⟨S, Z⟩) t hg (N.map (Value.int .u8)) (by simp [hN]) (fun j v hv => ?_) (by rw [en_size hZ]; simp [hN]) (fun v hv => ?_) ?_
  · rw [Addr.add_mid]
    have hj : j < N.length := by
      have := (List.getElem?_eq_some_iff.1 hv).1; simpa using this
    rw [hsrc j hj, ← hv]; simp [gi, hj]
  · obtain ⟨x, _, rfl⟩ := List.mem_map.1 hv; rfl
  · have e : ((en ⟨S, Z⟩).toList.take 1 ++ (N.map (Value.int .u8) ++ (en ⟨S, Z⟩).toList.drop (1 + (N.map (Value.int .u8)).length))).toArray = en ⟨S, N⟩ := by
      have h1 : ((Z.map (Value.int .u8)).drop 32 : List Value) = [] := List.drop_eq_nil_of_le (by simp [hZ])
      simp [en, ec, hN, h1, Nat.add_comm 1 32]
    rw [e]; simpa [goInt, hN] using h
set_option maxRecDepth 20000 in
set_option maxHeartbeats 1000000 in
theorem entry_any (bs : List Int) (k b o cap : Nat) (w : World) (hy : Bytes w (some ⟨b, o, none⟩) bs) (hl : bs.length = k + 33) (hk : k ≤ 1000) (hcap : k + 33 ≤ cap) :
    Calls Try.prog 44 #[.slice (some ⟨b, o, none⟩) (k + 33) cap] w fun e w' => e = .returned (.agg (en (rdE bs k))) ∧ Below w.heap.size w w' := by
  have hcapI : (k : Int) + 33 ≤ (cap : Int) := by omega
  obtain ⟨R, hR⟩ : ∃ R, rdE bs k = R := ⟨_, rfl⟩
  rw [hR]
  go_enter Try.func44, Try.ntmps44
  go_upto_region 2 with fail
  have r1 : Row (w.alloc (.cells (en zE) 54)) w.heap.size 54 (en zE) := Row.new _ _ _
  have b1 : Below w.heap.size w (w.alloc (.cells (en zE) 54)) := (Below.refl _ _).alloc (Nat.le_refl _) _
  rw [show (k : Int) + 33 - 32 = (k : Int) + 1 by omega]
  change Code.wp _ _ _ _ (w.alloc (.cells (en zE) 54))
  generalize w.alloc (.cells (en zE) 54) = w1 at *
  have hy1 := hy.below b1
  have hl2 : ((bs.drop 1).take k).length = k := by simp; omega
  have hcv := run_str w1 (some ⟨b, o + 1, none⟩) k (cap - 1) ((bs.drop 1).take k) hl2 ((hy1.drop 1).take k)
  generalize hS : strOfNums ((bs.drop 1).take k) = S at *
  go_upto_region 3 with (refine store_row0 54 (.tmp 4) (.tmp 12) (by rfl) (by rfl) (by rfl) w1.heap.size (en ⟨S, zer 32⟩) (by rfl) (by rfl) 54 (en zE) (Row.new _ _ _) (info54 rfl) rfl (en_one _) ?_)
  have r2 : Row ((w1.alloc (.cells (en zE) 54)).setRow w1.heap.size (en ⟨S, zer 32⟩)) w1.heap.size 54 (en ⟨S, zer 32⟩) := (Row.new _ _ _).setRow _
  have q1 := (r1.alloc (.cells (en zE) 54)).setRowOther (g := w1.heap.size) (by have := r1.lt; omega) (en ⟨S, zer 32⟩)
  have b2 := below_setRow (b1.alloc b1.size (.cells (en zE) 54)) b1.size (en ⟨S, zer 32⟩)
  have hgg : w.heap.size < w1.heap.size := r1.lt
  change Code.wp _ _ _ _ ((w1.alloc (.cells (en zE) 54)).setRow w1.heap.size (en ⟨S, zer 32⟩))
  generalize (w1.alloc (.cells (en zE) 54)).setRow w1.heap.size (en ⟨S, zer 32⟩) = w2 at *
  generalize w1.heap.size = g at *
  have hy2 := (hy.below b2).drop (k + 1)
  have hN : (bs.drop (k + 1)).length = 32 := by simp; omega
  have hrd : R = ⟨S, bs.drop (k + 1)⟩ := by rw [← hR, rdE, hS]
  generalize bs.drop (k + 1) = N at *
  clear hy hl hl2 hcv hS r1 b1 hy1 hR
  refine wp_region_quiet_tail 5 (by kernel_rfl) (by kernel_rfl) ?_
  simp only [List.take_succ_cons, List.take_zero, List.drop_succ_cons, List.drop_zero]
  repeat (go_big_quiet_step (fail))
  refine wpQuiet_nil ?_
  rintro _ ⟨nq, rfl⟩
  refine copyE (w := w2.drewN nq) (.tmp 14) (.tmp 17) 27 27 (by rfl) (by rfl) 5 Try.underlying27 (by kernel_rfl) b (o + (k + 1)) (cap - (k + 1)) g (by rfl) (by rfl) S (zer 32) rfl 54 (r2.drewN nq) N hN (hy2.below (below_drewN (Below.refl _ _) nq)) ?_
  simp only [Act.put, List.setIfInBounds_toArray, List.set_cons_succ, List.set_cons_zero]
  have r3 := (r2.drewN nq).setRow (en ⟨S, N⟩)
  have q3 := (q1.drewN nq).setRowOther (g := g) (by omega) (en ⟨S, N⟩)
  have b3 := below_setRow (g := g) (below_drewN b2 nq) (by omega) (en ⟨S, N⟩)
  generalize (w2.drewN nq).setRow g (en ⟨S, N⟩) = w3 at *
  have hi : (Try.prog.info? 54).map (·.size) = some (en ⟨S, N⟩).size := info54 (e := ⟨S, N⟩) hN
  have hold : (en zE).size = (en ⟨S, N⟩).size := by rw [en_size (e := ⟨S, N⟩) hN]; rfl
  have h1 := en_one ⟨S, N⟩
  have hC : en R = en ⟨S, N⟩ := by rw [hrd]
  clear hrd
  generalize en ⟨S, N⟩ = C at *
  go_wp2_with (first | (refine wpList_load_row (by rfl) 54 (.tmp 4) (by rfl) g (by rfl) 54 C (0, 0) _ r3 Try.underlying54 rfl hi ?_) | (refine store_row0 54 (.tmp 2) (.tmp 19) (by rfl) (by rfl) (by rfl) w.heap.size C (by rfl) (by rfl) 54 _ q3 hi hold h1 ?_))
  exact bodyPost_ret (results_cell_row Try.results44 _ _ w.heap.size 54 C (0, 0) _ rfl (q3.setRow _) Try.underlying54 rfl hi) rfl ⟨by rw [hC], below_setRow b3 (Nat.le_refl _) _⟩
end Go.Proofs.Ytgcffdnbihfghaa
