/- wire's (*reader).list. -/
import Derived.Test.YtcdmjjlbeifgjaaRpred
namespace Go.Proofs.Ytcdmjjlbeifgjaa
open Go.RowKit

theorem Row.ne {w : World} {a b : Nat} {t t' : TypeId} {vs vs' : Array Value} (h : Row w a t vs) (h' : Row w b t' vs') (ht : t ≠ t') : a ≠ b := fun e => by
  subst e
  unfold Row at h h'
  rw [h] at h'
  injection h' with h'; injection h' with _ h'
  exact ht h'
theorem Rd.setOther {w0 w : World} {g : Nat} {l : List Int} (h : Rd w0 w g l) {a : Addr} (ha : g ≠ a.block) (v : Value) : Rd w0 (w.setCell a v) g l := by
  obtain ⟨hg, p, c, hr, h1, h2, h3⟩ := h
  exact ⟨hg, p, c, hr.setOther ha v, h1, h2, h3⟩
theorem Fr.setNew {l : List Nat} {a b : World} (h : Fr l a b) {p : Addr} (hp : a.heap.size ≤ p.block) (u : Value) : Fr l a (b.setCell p u) :=
  ⟨h.os, h.tape, h.output, by simpa [World.setCell] using h.size, fun k hk hn => (Below.heap_setCell _ _ _ _ (by omega)).trans (h.block k hk hn)⟩
def vI (l : List Int) : Array Value := (l.map (Value.int .i64)).toArray
theorem vI_set (l : List Int) (j : Nat) (x : Int) : (vI l).setIfInBounds j (.int .i64 x) = vI (l.set j x) := by simp [vI, List.map_set]
theorem vI_at {l : List Int} {j : Nat} (h : j < l.length) : (vI l)[j]? = some (.int .i64 (gi l j)) := by simp [vI, gi, h]
theorem own_of_row {w : World} {B b : Nat} {l : List Int} (h : Row w b 3 (vI l)) (hB : B ≤ b) (hl : l.length ≤ 1099511627776) : OwnI w B 3 (.slice (some ⟨b, 0, none⟩) l.length l.length) l :=
  ⟨by simp, .inr ⟨b, l.length, vI l, rfl, hB, h, Nat.le_refl _, by unfold maxLen; omega, by simp [vI], by simp [vI, List.take_of_length_le]⟩⟩
theorem nodes_step (n k : Nat) (l : List Int) (hk : k < n) : (nodesRV k l ++ List.replicate (n - k) 0).set k (numRV 0 (l.drop k)) = nodesRV (k + 1) l ++ List.replicate (n - (k + 1)) 0 := by
  rw [List.set_append_right _ _ (by rw [nodesRV_len]; omega), nodesRV_len, Nat.sub_self, show n - k = (n - (k + 1)) + 1 by omega, List.replicate_succ, List.set_cons_zero, nodesRV_snoc]
  simp

set_option maxRecDepth 20000 in
set_option maxHeartbeats 1000000 in
theorem rlist_any (l : List Int) (w0 w : World) (g : Nat) (hR : Rd w0 w g l) (hb : Below w0.heap.size w0 w) (hl : l.length ≤ 549755813888) (hy : ∀ x ∈ l, 0 ≤ x ∧ x < 256) (_hgl : g < w.heap.size) :
    Calls Try.prog 46 #[.pointer (some ⟨g, 0, none⟩)] w fun e w' => ∃ sp cap, e = .returned (.tuple #[.slice sp (if listRE l = 0 then listRV l else []).length cap, .int .i64 (listRE l)]) ∧ OwnI w' w.heap.size 3 (.slice sp (if listRE l = 0 then listRV l else []).length cap) (if listRE l = 0 then listRV l else []) ∧ Fr [g] w w' ∧ (listRE l = 0 → Rd w0 w' g (l.drop (1 + (numRV 1 l).toNat))) := by
  have hg := hR.1
  have hnum := rnum_any 1 l w0 w g hR hb (by omega) hy
  have hbd := numRV_bound 1 l
  rw [show bsz 1 = 1 from rfl] at hnum
  obtain ⟨xs, hxs⟩ : ∃ xs, xs = if listRE l = 0 then listRV l else [] := ⟨_, rfl⟩
  rw [← hxs]
  by_cases h1 : numRE 1 l = 0
  · have hE : listRE l = nodesRE (numRV 1 l).toNat (l.drop 1) := by simp [listRE, h1]
    have hV : listRV l = nodesRV (numRV 1 l).toNat (l.drop 1) := rfl
    obtain ⟨n, hn⟩ : ∃ n : Nat, numRV 1 l = n := ⟨(numRV 1 l).toNat, by omega⟩
    rw [h1, hn] at hnum
    rw [hn, Int.toNat_natCast] at hE hV ⊢
    have hn6 : n ≤ 6000 := by omega
    rw [hE]
    have hxs' : Hid (xs = if nodesRE n (l.drop 1) = 0 then nodesRV n (l.drop 1) else []) := by show _ = _; rw [hxs, hE, hV]
    have hdr : Hid (l.drop (1 + n) = (l.drop 1).drop n) := by show _ = _; rw [List.drop_drop]
    have hy1 : ∀ x ∈ l.drop 1, 0 ≤ x ∧ x < 256 := fun x hx => hy x (List.mem_of_mem_drop hx)
    have hl1 : (l.drop 1).length ≤ 549755813888 := by simp; omega
    rw [hdr.out]
    clear hxs hE hV hn h1 hR hdr hbd
    generalize l.drop 1 = l1 at *
    have hmk := fun W => makeI n (n : Int) rfl (by omega) W
    obtain ⟨E, hEe⟩ : ∃ E, E = nodesRE n l1 := ⟨_, rfl⟩
    have hE' : Hid (E = nodesRE n l1) := hEe
    rw [← hEe]
    clear hEe
    go_enter Try.func46, Try.ntmps46
    go_wp2_with (go_at_call 45; (with_reducible refine Calls.mono (hnum) ?_); rintro e w2 ⟨rfl, hF2, hR2⟩; have hB2 := Rd.bel hb hF2 hg; have hR2' := hR2 trivial; have hg2 := hF2.size)
    go_loopw [20] (fun i wr => ∃ k : Nat, i = .int .i64 k ∧ k ≤ n ∧ nodesRE k l1 = 0 ∧ Row wr w2.heap.size 3 (vI (nodesRV k l1 ++ List.replicate (n - k) 0)) ∧ Rd w0 wr g (l1.drop k) ∧ Below w0.heap.size w0 wr ∧ Fr [g] w wr) (fun i _ => n - (intOf i).toNat)
    case atStart => exact ⟨0, rfl, by omega, rfl, by have h : Row (w2.alloc (.cells (zi n) 3)) w2.heap.size 3 (vI (List.replicate n 0)) := Row.new w2 3 (zi n); simpa [nodesRV] using h, by simpa using hR2'.fr ((Below.refl _ _).alloc (Nat.le_refl _) _), hB2.alloc hB2.size _, hF2.trans (Fr.of_below ((Below.refl _ _).alloc (Nat.le_refl _) _))⟩
    case round =>
      obtain ⟨k, rfl, hk, hok, hrow, hRk, hBk, hFk⟩ := hrel
      by_cases hlt : k < n
      · have hnk := rnum_any 0 (l1.drop k) w0 wr g hRk hBk (by simp; omega) (fun x hx => hy1 x (List.mem_of_mem_drop hx))
        rw [show bsz 0 = 1 from rfl, List.drop_drop] at hnk
        have hstep := nodes_step n k l1 hlt
        have hsn := nodesRE_snoc k l1 hok
        have hstop := nodesRE_stop n k l1 hlt hok
        obtain ⟨_, _, _, hrg, _⟩ := hRk
        have hne : w2.heap.size ≠ g := hrow.ne hrg (by decide)
        have hlen : (nodesRV k l1 ++ List.replicate (n - k) (0 : Int)).length = n := by rw [List.length_append, nodesRV_len, List.length_replicate]; omega
        have hst' : Hid ((nodesRV k l1 ++ List.replicate (n - k) 0).set k (numRV 0 (l1.drop k)) = nodesRV (k + 1) l1 ++ List.replicate (n - (k + 1)) 0) := hstep
        have hsn' : Hid (nodesRE (k + 1) l1 = numRE 0 (l1.drop k)) := hsn
        have hsp' : Hid (numRE 0 (l1.drop k) ≠ 0 → nodesRE n l1 = numRE 0 (l1.drop k)) := hstop
        clear hstep hsn hstop hok
        generalize nodesRV k l1 ++ List.replicate (n - k) 0 = ys at *
        generalize numRV 0 (l1.drop k) = V at *
        by_cases hz : numRE 0 (l1.drop k) = 0
        · have hz2 : Hid (nodesRE (k + 1) l1 = 0) := hsn'.out.trans hz
          rw [hz] at hnk
          clear hsn' hsp' hz
          go_wp2_with (go_at_call 45; (with_reducible refine Calls.mono (hnk) ?_); rintro e w3 ⟨rfl, hF3, hR3⟩; have hrow3 := hrow.fr hF3 (by simpa using hne); have hc3 : w3.cell? ⟨w2.heap.size, k, none⟩ = some (.int .i64 (gi ys k)) := hrow3.cell.trans (vI_at (by omega)); have hf3 := hrow3.frozen (j := k); have hB3 := Rd.bel hBk hF3 hg)
          have hrow4 := hrow3.set0 k (.int .i64 V)
          rw [vI_set, hst'.out] at hrow4
          go_roundw
          case rel => exact ⟨k + 1, by go_num, by omega, hz2.out, hrow4, (hR3 trivial).setOther (a := ⟨w2.heap.size, k, none⟩) (Ne.symm hne) _, hB3.setCell (p := ⟨w2.heap.size, k, none⟩) hB2.size _, (hFk.trans hF3).setNew hg2 _⟩
          case measure => simp [intOf]; omega
        · have hz2 : Hid (nodesRE n l1 = numRE 0 (l1.drop k)) := hsp'.out hz
          have hnz : (numRE 0 (l1.drop k) != 0) = true := by simpa using hz
          have hz3 : Hid (numRE 0 (l1.drop k) ≠ 0) := hz
          clear hsn' hsp' hz
          generalize numRE 0 (l1.drop k) = E1 at *
          go_wp2_with (go_at_call 45; (with_reducible refine Calls.mono (hnk) ?_); rintro e w3 ⟨rfl, hF3, hR3⟩; have hrow3 := hrow.fr hF3 (by simpa using hne); have hc3 : w3.cell? ⟨w2.heap.size, k, none⟩ = some (.int .i64 (gi ys k)) := hrow3.cell.trans (vI_at (by omega)); have hf3 := hrow3.frozen (j := k))
          go_ret2
          have hx0 : xs = [] := by rw [hxs'.out, hz2.out, if_neg hz3.out]
          refine ⟨none, 0, ?_, ?_, (hFk.trans hF3).setNew (p := ⟨w2.heap.size, k, none⟩) hg2 _, fun h => ?_⟩
          · rw [hx0, hE'.out, hz2.out]; rfl
          · rw [hx0]; exact OwnI.nil _ _ _
          · rw [hE'.out, hz2.out] at h; exact absurd h hz3.out
      · obtain rfl : k = n := by omega
        have hx0 : Hid (xs = nodesRV k l1) := by show _ = _; rw [hxs'.out, hok, if_pos rfl]
        have hE0 : Hid (E = 0) := by show _ = _; rw [hE'.out, hok]
        rw [Nat.sub_self, List.replicate_zero, List.append_nil] at hrow
        have hlen := nodesRV_len k l1
        clear hok hlt
        go_wp2
        go_ret2
        have ho := own_of_row (B := w.heap.size) hrow hg2 (by omega)
        rw [hlen] at ho
        refine ⟨some ⟨w2.heap.size, 0, none⟩, k, ?_, ?_, hFk, fun _ => hRk⟩
        · rw [hx0.out, hE0.out, hlen]; rfl
        · rw [hx0.out, hlen]; exact ho
  · have hE : listRE l = numRE 1 l := by simp [listRE, h1]
    rw [hE] at hxs ⊢
    rw [if_neg h1] at hxs
    subst hxs
    have hV : numRV 1 l = 0 := by simp [numRV, h1]
    rw [hV] at hnum
    have hne : (numRE 1 l != 0) = true := by simpa using h1
    have h1' : Hid (numRE 1 l ≠ 0) := h1
    clear hE h1 hR hV
    generalize numRE 1 l = E at *
    go_enter Try.func46, Try.ntmps46
    go_wp2_with (first | (go_at_call 45; (with_reducible refine Calls.mono (hnum) ?_); rintro e w2 ⟨rfl, hF2, hR2⟩))
    go_ret2
    exact ⟨none, 0, rfl, OwnI.nil _ _ _, hF2, fun h => absurd h h1'.out⟩
end Go.Proofs.Ytcdmjjlbeifgjaa
