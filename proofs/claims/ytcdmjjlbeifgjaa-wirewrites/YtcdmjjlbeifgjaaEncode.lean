/- wire.Encode: the error, or the bytes, of any message whose list and bytes are not longer than 2^38. -/
import Derived.Test.YtcdmjjlbeifgjaaPart
import Derived.Test.YtcdmjjlbeifgjaaRow
import Derived.Test.YtcdmjjlbeifgjaaEncMath
import Derived.Deep.Onto
namespace Go.Proofs.Ytcdmjjlbeifgjaa
open Go.RowKit

theorem Wr.new (w : World) (B : Nat) (hB : B ≤ w.heap.size) (k : Int) : Wr ((w.alloc (.cells #[.int .u8 k] 5)).alloc (.cells #[.slice (some ⟨w.heap.size, 0, none⟩) 1 1] 49)) B (w.heap.size + 1) [k] := by
  refine ⟨by omega, some ⟨w.heap.size, 0, none⟩, 1, Row.newAt _ 49 _ _ (by simp), Own8.alloc ?_ _⟩
  have := World.ownsRow_lit (base := B) (e := 5) (size := 1) w #[.int .u8 k] 1 hB (by unfold maxLen; omega) rfl
  exact this
theorem gi_mem (l : List Int) (k : Nat) (h : k < l.length) : gi l k ∈ l := by simp [gi, h]
theorem take_gi (l : List Int) (k : Nat) (h : k < l.length) : l.take (k + 1) = l.take k ++ [gi l k] := by
  rw [List.take_succ_eq_append_getElem h]; simp [gi, h]
theorem split_gi (l : List Int) (k : Nat) (h : k < l.length) : l = l.take k ++ gi l k :: l.drop (k + 1) := by
  have : gi l k = l[k] := by simp [gi, h]
  rw [this, List.getElem_cons_drop, List.take_append_drop]

set_option maxRecDepth 20000 in
set_option maxHeartbeats 1000000 in
theorem encode_any (m : M) (lp dp : Option Addr) (lc dc : Nat) (w : World) (hF : Fld w m lp lc dp dc) (hll : m.list.length ≤ 274877906944) (hdl : m.data.length ≤ 274877906944) :
    Calls Try.prog 11 #[.agg (mc m lp lc dp dc)] w fun e w' => ∃ sp cap, e = .returned (.tuple #[.slice sp (encB m).length cap, .int .i64 (encE m)]) ∧ Own8 w' w.heap.size 5 (.slice sp (encB m).length cap) (encB m) ∧ Below w.heap.size w w' := by
  have hrow := rowOf_any m.kind
  cases hk : rowOf m.kind with
  | none =>
    have hE : encE m = 3 := by simp [encE, hk]
    have hB : encB m = [] := by simp [encB, hk]
    rw [hE, hB]
    simp only [hk, Option.getD_none, Option.isSome_none, Rowed] at hrow
    have hc : (w.alloc (.cells (mc m lp lc dp dc) 28)).cell? ⟨w.heap.size, 0, none⟩ = some (.int .i64 m.kind) := ((Row.new w 28 _).cell).trans mc0
    clear hk hE hB
    go_enter Try.func11, Try.ntmps11
    go_wp2_with (go_at_call 19; (with_reducible refine Calls.mono (hrow _) ?_); rintro e w2 ⟨sp, cap, rfl, ho, hb⟩)
    go_ret2
    exact ⟨none, 0, rfl, World.ownsRow_nil _ _ _ _, ((Below.refl _ _).alloc (Nat.le_refl _) _).trans (hb.mono (by simp))⟩
  | some r =>
    simp only [hk, Option.getD_some, Option.isSome_some, Rowed] at hrow
    have hp := rowOf_parts _ _ hk
    have hrl := rowOf_len m.kind
    rw [hk, Option.getD_some] at hrl
    have hE : encE m = rowE m r := by simp [encE, hk]
    have hB : encB m = if rowE m r = 0 then m.kind % 256 :: rowB m r else [] := by simp [encB, hk]
    rw [hE, hB]
    obtain ⟨xs, hxs⟩ : ∃ xs, xs = if rowE m r = 0 then m.kind % 256 :: rowB m r else [] := ⟨_, rfl⟩
    rw [← hxs]
    have hxs' : Hid (xs = if rowE m r = 0 then m.kind % 256 :: rowB m r else []) := hxs
    clear hxs
    have hR0 := Row.new w 28 (mc m lp lc dp dc)
    have hc : (w.alloc (.cells (mc m lp lc dp dc) 28)).cell? ⟨w.heap.size, 0, none⟩ = some (.int .i64 m.kind) := hR0.cell.trans mc0
    clear hk hE hB
    go_enter Try.func11, Try.ntmps11
    go_wp2_with (go_at_call 19; (with_reducible refine Calls.mono (hrow _) ?_); rintro e w2 ⟨sp, cap, rfl, ho, hb⟩; have hR := hR0.below hb hR0.lt; have hc2 : w2.cell? ⟨w.heap.size, 0, none⟩ = some (.int .i64 m.kind) := hR.cell.trans mc0; have hI := ho.ints; have hF2 := (hF.below ((Below.refl _ _).alloc (Nat.le_refl _) _)).below hb; clear ho hR0 hc)
    go_loopw [25] (fun i wr => ∃ k : Nat, i = .int .i64 k ∧ k ≤ r.length ∧ rowE m (r.take k) = 0 ∧ (rowB m (r.take k)).length ≤ k * 6002 ∧ Wr wr w2.heap.size (w2.heap.size + 1) (m.kind % 256 :: rowB m (r.take k)) ∧ Below w2.heap.size w2 wr) (fun i _ => r.length - (intOf i).toNat)
    case atStart => exact ⟨0, rfl, by omega, rfl, by simp [rowB], by simpa [rowB] using Wr.new w2 w2.heap.size (Nat.le_refl _) (m.kind % 256), ((Below.refl _ _).alloc (Nat.le_refl _) _).alloc (by simp) _⟩
    case round =>
      obtain ⟨k, rfl, hk, hok, hlen, hWk, hBk⟩ := hrel
      by_cases hlt : k < r.length
      · obtain ⟨b, o, rfl, hcl⟩ := hI.below hBk (Nat.le_refl _) (by omega)
        have g1 := hcl k hlt
        have hpk := hp _ (gi_mem r k hlt)
        have hpart := part_any (gi r k) hpk m lp dp lc dc w2 wr (w2.heap.size + 1) w.heap.size _ hBk hWk (by simp only [List.length_cons]; omega) hR hF2 hll hdl
        have htk := take_gi r k hlt
        have hsp := split_gi r k hlt
        have hst := rowE_stop m (r.take k) (r.drop (k + 1)) (gi r k) hok
        have hsn := rowE_snoc m (r.take k) (gi r k) hok
        have hbn := rowB_snoc m (r.take k) (gi r k)
        have hpl := partB_len (gi r k) m hF.key
        rw [← hsp] at hst
        rw [← htk] at hsn hbn
        clear hcl hsp htk hrow hI
        generalize gi r k = p at *
        by_cases hz : partE p m = 0
        · have hl1 := hpl hz
          have hz' := hsn.trans hz
          have hbn' : Hid (rowB m (r.take (k + 1)) = rowB m (r.take k) ++ partB p m) := hbn
          have hl2 : (rowB m (r.take (k + 1))).length ≤ (k + 1) * 6002 := by rw [hbn, List.length_append]; omega
          have hz2 : Hid (rowE m (r.take (k + 1)) = 0) := hz'
          rw [hz] at hpart
          clear hst hsn hbn hpl hz hz' hok
          go_wp2_with (go_at_call 20; (with_reducible refine Calls.mono (hpart) ?_); rintro e w3 ⟨rfl, hb3, hw3⟩)
          go_roundw
          case rel => exact ⟨k + 1, by go_num, by omega, hz2.out, hl2, by rw [hbn'.out]; have := hw3 trivial; simpa using this, hb3⟩
          case measure => simp [intOf]; omega
        · have hst' : Hid (rowE m r = partE p m) := hst hz
          have hne : (partE p m != 0) = true := by simpa using hz
          have hz2 : Hid (partE p m ≠ 0) := hz
          clear hst hsn hbn hpl hok hz
          generalize partE p m = E at *
          go_wp2_with (go_at_call 20; (with_reducible refine Calls.mono (hpart) ?_); rintro e w3 ⟨rfl, hb3, hw3⟩)
          go_ret2
          refine ⟨none, 0, ?_, ?_, ((Below.refl _ _).alloc (Nat.le_refl _) _).trans ((hb.mono (by simp)).trans (hb3.mono (by have := hb.size; simp at this; omega)))⟩
          · rw [hxs'.out, hst'.out, if_neg hz2.out]; rfl
          · rw [hxs'.out, hst'.out, if_neg hz2.out]; exact World.ownsRow_nil _ _ _ _
      · obtain rfl : k = r.length := by omega
        rw [List.take_length] at hok hWk hlen
        have hok' : Hid (rowE m r = 0) := hok
        clear hok hlt hrow
        obtain ⟨hBg, sp5, cap5, hr5, ho5⟩ := hWk
        have hc5 : wr.cell? ⟨w2.heap.size + 1, 0, none⟩ = some (.slice sp5 (m.kind % 256 :: rowB m r).length cap5) := hr5.cell
        go_wp2
        go_ret2
        refine ⟨sp5, cap5, ?_, ?_, ((Below.refl _ _).alloc (Nat.le_refl _) _).trans ((hb.mono (by simp)).trans (hBk.mono (by have := hb.size; simp at this; omega)))⟩
        · rw [hxs'.out, hok'.out, if_pos rfl]; rfl
        · rw [hxs'.out, hok'.out, if_pos rfl]; exact World.ownsRow.mono ho5 (by have := hb.size; simp at this; omega)
end Go.Proofs.Ytcdmjjlbeifgjaa
