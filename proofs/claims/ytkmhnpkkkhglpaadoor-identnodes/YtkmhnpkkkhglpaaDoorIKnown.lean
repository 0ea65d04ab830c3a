/- The chapter's examples: known answers true, and turns no old memory. -/
import Derived.Test.YtkmhnpkkkhglpaaDoorBtw
namespace Go.Proofs.YtkmhnpkkkhglpaaDoor
open Go.RowKit

/-- An id loaded out of the middle of a block, where the guard lets the load by. -/
theorem load_midW {ops : Array Oper} {rest : List Oper} {o : Oper} {a : Act} {w : World} {Q : Exit → Act → World → Prop} (hw : Region.wanted o (yielded ops a.tmps) = true) (x : Operand) (ho : o.op = .load 24 x)
    (b off : Nat) (hx : a.eval x = .pointer (some ⟨b, off, none⟩)) (l : List Int) (hl : Id32 l) (hc : ∀ j, j < 32 → w.cell? ⟨b, off + j, none⟩ = some (.int .u8 (gi l j)))
    (h : wpList Tryd.prog ops Q rest (a.put o.dst (.agg (v8 l))) w) : wpList Tryd.prog ops Q (o :: rest) a w := by
  refine BigFrame.wpList_want hw fun _ hK => wp_load_mid 24 x ho b off hx (l.map (Value.int .u8)) _ (fun j v hv => ?_) Tryd.underlying24 rfl ?_ (hK _ _ h)
  · have hj : j < l.length := by have := (List.getElem?_eq_some_iff.1 hv).1; simpa using this
    rw [hc j (by rw [hl.1] at hj; exact hj), ← hv]; simp [gi, hj]
  · rw [List.length_map, hl.1]; kernel_rfl

def zero224 : List Int := List.replicate 224 0
def knN : Nat → List Int
  | 0 => zero224
  | k + 1 => (knN k).set (k * 32 + 31) k
theorem knN_length : ∀ k, (knN k).length = 224
  | 0 => List.length_replicate
  | k + 1 => by rw [knN, List.length_set, knN_length k]
def idn (i : Int) : List Int := [0, 0, 0, 0, 0, 0, 0, 0, 0, 0, 0, 0, 0, 0, 0, 0, 0, 0, 0, 0, 0, 0, 0, 0, 0, 0, 0, 0, 0, 0, 0, i]
theorem id_idn {i : Int} (h : 0 ≤ i ∧ i < 256) : Id32 (idn i) := ⟨rfl, fun x hx => by
  simp only [idn, List.mem_cons, List.not_mem_nil, or_false] at hx; omega⟩
theorem kn_drop {i : Nat} (h : ((knN 7).drop (32 * i)).take 32 = idn i) (j : Nat) (hj : j < 32) : gi (knN 7) (32 * i + j) = gi (idn i) j := by
  rw [← h]; simp [gi, hj]

set_option maxRecDepth 20000 in
set_option maxHeartbeats 1000000 in
theorem known_any (w : World) : Calls Tryd.prog 4 #[] w fun e w' => e = .returned (.bool true) ∧ Below w.heap.size w w' := by
  have hzv : ∀ wx, (zeroValue 27).run Tryd.prog wx = .ok (.agg (v8 zero224)) wx := fun wx => by kernel_rfl
  go_enter Tryd.func4, Tryd.ntmps4
  go_wp2
  clear hzv
  go_loopw [2] (fun i wr => ∃ k : Nat, k ≤ 7 ∧ i = .int .i64 k ∧ Row wr w.heap.size 27 (v8 (knN k)) ∧ Below w.heap.size w wr) (fun i _ => 7 - (intOf i).toNat)
  case atStart => exact ⟨0, by omega, rfl, Row.new _ _ _, (Below.refl _ _).alloc (Nat.le_refl _) _⟩
  case round =>
    obtain ⟨k, hk, rfl, r, hb⟩ := hrel
    by_cases hlt : k < 7
    · obtain ⟨v, hv⟩ : ∃ v, wr.cell? ⟨w.heap.size, k * 32 + 31, none⟩ = some v := ⟨_, r.cell8 (by rw [knN_length]; omega)⟩
      have hf : wr.frozen? ⟨w.heap.size, k * 32 + 31, none⟩ = false := r.frozen
      go_wp2
      go_roundw
      case rel => exact ⟨k + 1, by omega, by go_num, r.set8 _ _, hb.setCell (Nat.le_refl _) _⟩
      case measure => simp [intOf]; omega
    · obtain rfl : k = 7 := by omega
      have hB : Below wr.heap.size wr wr := Below.refl _ _
      have hR : ∀ (i : Nat), i < 7 → ((knN 7).drop (32 * i)).take 32 = idn i → ∀ {w' : World}, Below wr.heap.size wr w' → ∀ j, j < 32 → w'.cell? ⟨w.heap.size, 32 * i + j, none⟩ = some (.int .u8 (gi (idn i) j)) := fun i hi h w' hbw j hj => by
        rw [(r.below hbw r.lt).cell8 (by rw [knN_length]; omega), kn_drop h j hj]
      have c3 := @hR 3 (by omega) rfl
      have c4 := @hR 4 (by omega) rfl
      have c5 := @hR 5 (by omega) rfl
      have c6 := @hR 6 (by omega) rfl
      have i3 := id_idn (i := 3) (by omega)
      have i4 := id_idn (i := 4) (by omega)
      have i5 := id_idn (i := 5) (by omega)
      have i6 := id_idn (i := 6) (by omega)
      have k1 := fun wx => between_any (idn 5) (idn 3) (idn 4) wx i5 i3 i4
      have k2 := fun wx => between_any (idn 5) (idn 6) (idn 5) wx i5 i6 i5
      have k3 := fun wx => within_any (idn 5) (idn 5) (idn 5) wx i5 i5 i5
      have k4 := fun wx => between_any (idn 5) (idn 5) (idn 5) wx i5 i5 i5
      rw [show btw (idn 5) (idn 3) (idn 4) = true by decide] at k1
      rw [show btw (idn 5) (idn 6) (idn 5) = true by decide] at k2
      rw [show win (idn 5) (idn 5) (idn 5) = true by decide] at k3
      rw [show btw (idn 5) (idn 5) (idn 5) = false by decide] at k4
      clear hR
      have hb' : Hid _ := show Below w.heap.size w wr from hb
      clear hb r
      generalize idn 3 = l3 at c3 i3 k1
      generalize idn 4 = l4 at c4 i4 k1
      generalize idn 6 = l6 at c6 i6 k2
      generalize idn 5 = l5 at c5 i5 k1 k2 k3 k4
      go_wp2_with (first
        | (refine load_midW ?hw (.tmp 12) (by rfl) w.heap.size 160 (by rfl) l5 i5 (c5 hB) ?_; (case hw => rfl))
        | (refine load_midW ?hw (.tmp 14) (by rfl) w.heap.size 96 (by rfl) l3 i3 (c3 hB) ?_; (case hw => rfl))
        | (refine load_midW ?hw (.tmp 16) (by rfl) w.heap.size 128 (by rfl) l4 i4 (c4 hB) ?_; (case hw => rfl))
        | (refine load_midW ?hw (.tmp 20) (by rfl) w.heap.size 160 (by rfl) l5 i5 (c5 hB) ?_; (case hw => rfl))
        | (refine load_midW ?hw (.tmp 22) (by rfl) w.heap.size 192 (by rfl) l6 i6 (c6 hB) ?_; (case hw => rfl))
        | (refine load_midW ?hw (.tmp 24) (by rfl) w.heap.size 160 (by rfl) l5 i5 (c5 hB) ?_; (case hw => rfl))
        | (refine load_midW ?hw (.tmp 29) (by rfl) w.heap.size 160 (by rfl) l5 i5 (c5 hB) ?_; (case hw => rfl))
        | (refine load_midW ?hw (.tmp 31) (by rfl) w.heap.size 160 (by rfl) l5 i5 (c5 hB) ?_; (case hw => rfl))
        | (refine load_midW ?hw (.tmp 33) (by rfl) w.heap.size 160 (by rfl) l5 i5 (c5 hB) ?_; (case hw => rfl))
        | (refine load_midW ?hw (.tmp 38) (by rfl) w.heap.size 160 (by rfl) l5 i5 (c5 hB) ?_; (case hw => rfl))
        | (refine load_midW ?hw (.tmp 40) (by rfl) w.heap.size 160 (by rfl) l5 i5 (c5 hB) ?_; (case hw => rfl))
        | (refine load_midW ?hw (.tmp 42) (by rfl) w.heap.size 160 (by rfl) l5 i5 (c5 hB) ?_; (case hw => rfl))
        | (go_at_call 7; with_reducible refine Calls.mono (k1 _) ?_; rintro e w1 ⟨rfl, hb1⟩; have hB := hB.trans (hb1.mono hB.size))
        | (go_at_call 7; with_reducible refine Calls.mono (k2 _) ?_; rintro e w1 ⟨rfl, hb1⟩; have hB := hB.trans (hb1.mono hB.size))
        | (go_at_call 8; with_reducible refine Calls.mono (k3 _) ?_; rintro e w1 ⟨rfl, hb1⟩; have hB := hB.trans (hb1.mono hB.size))
        | (go_at_call 7; with_reducible refine Calls.mono (k4 _) ?_; rintro e w1 ⟨rfl, hb1⟩; have hB := hB.trans (hb1.mono hB.size)))
      go_ret
      exact ⟨rfl, hb'.out.trans (hB.mono hb'.out.size)⟩
end Go.Proofs.YtkmhnpkkkhglpaaDoor
