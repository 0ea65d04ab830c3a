/- What OtsBacks stands on: the known answers, arguments opened, the reference's way back, both ways back alike, the early answers. -/
import Derived.Test.YtoebnkepeledmaaDoorOtsG
import Derived.Test.YtoebnkepeledmaaDoorArg
import Derived.Test.YtoebnkepeledmaaDoorClaims2
import Derived.Test.YtoebnkepeledmaaDoorRefG
import Derived.Test.YtoebnkepeledmaaDoorOtsH
namespace Go.Proofs.YtoebnkepeledmaaDoor

section
open Go.RowKit

set_option maxRecDepth 20000 in
set_option maxHeartbeats 1000000 in
theorem known5_any (S : List Int → List Int) (hS : Hash S) (w : World) (hL : Laid w) :
    Calls Tryd.prog 14 #[] w fun e w' => e = .returned (.bool true) ∧ Below w.heap.size w w' := by
  have z16 : ∀ wx, (zeroValue 22).run Tryd.prog wx = .ok (.agg (v8 (zer 16))) wx := fun wx => by kernel_rfl
  have r0 : Row (World.alloc w (.cells (v8 (zer 16)) 22)) w.heap.size 22 (v8 (zer 16)) := Row.new _ _ _
  have b0 : Below w.heap.size w (World.alloc w (.cells (v8 (zer 16)) 22)) := (Below.refl _ _).alloc (Nat.le_refl _) _
  have hsg := Sign_any S hS (zer 16) (zer 32) [] 0 none 0 0 (World.alloc w (.cells (v8 (zer 16)) 22)) (hL.below b0) (zer_len 16) (zer_len 32) rfl (by omega) (Bytes.nil _ _)
  generalize sigL S (zer 16 ++ n4 0) (zer 32) [] = SG at *
  go_enter Tryd.func14, Tryd.ntmps14
  go_wp2_with (first | (refine wpList_load_row (by rfl) 22 (.tmp 1) (by rfl) w.heap.size (by rfl) 22 (v8 (zer 16)) (0, 0) _ r0 Tryd.underlying22 rfl (by kernel_rfl) ?_) | (go_at_call 17; refine Calls.mono hsg ?_; rintro e w3 ⟨g, rfl, _, _, hb3⟩))
  go_ret
  exact ⟨rfl, b0.trans (hb3.mono (by simp))⟩
end

section
open Go.ChangeShapes Go.WideShapes Go.ChangeAt Go.RowKit

set_option maxRecDepth 20000 in
theorem open_data {H : Type} {enc : TypeId × Value → H} {w : World} {base : Nat} {sp : Nat → Bool} {held : Bool} {a : Option Addr} {len cap : Nat} {d : DataW H} {p : List MemPlace}
    (h : DataW.Trod enc Tryd.prog w base sp held 28 (.slice a len cap) d p) : len = 0 ∨ ∃ xs ys, d = .slice xs ys ∧ xs.length = len := by
  obtain ⟨fuel, hf⟩ := h
  have c5 : Tryd.prog.cellsOf 5 = 1 := by kernel_rfl
  rcases open_ints Tryd.underlying28 Tryd.underlying5 c5 hf with ⟨hcs, _⟩ | ⟨ad, len', cap', zs, hcs, _, hl, hm, hz, hx, _, _⟩
  · simp only [Value.cells, List.cons.injEq, and_true] at hcs
    injection hcs with _ e2
    exact .inl e2
  · simp only [Value.cells, List.cons.injEq, and_true] at hcs
    injection hcs with e1 e2 e3
    subst e2
    have hzl : len ≤ zs.length := by rw [hz]; split <;> omega
    injection hx with hx1
    exact .inr ⟨_, _, hx1, by simp [lits]; omega⟩
end

section
open Go Go.RowKit

theorem exec_front {o : Oper} {a : Act} {w : World} (x : Operand) (hop : o.op = .slice 28 x none (some (.const (.int .i64 4))) none) (b off len cap : Nat) (hx : a.eval x = .slice (some ⟨b, off, none⟩) len cap) (hc : 4 ≤ cap) :
    (execOp a.eval o).run Tryd.prog w = .ok (.value (.slice (some ⟨b, off, none⟩) 4 cap)) w := by
  have h1 : (4 : Int) ≤ (cap : Int) := by omega
  have h2 : ¬ cap = 0 := by omega
  have e4 : a.eval (.const (.int .i64 4)) = .int .i64 4 := rfl
  unfold execOp
  simp only [hop, hx, Option.map, e4]
  first | (go_simp; done) | (simp only [Sem.run_bind]; go_simp; done)
theorem exec_neq_str {P : Program} {o : Oper} {a : Act} {w : World} (t t2 : TypeId) (x y : Operand) (hop : o.op = .binOp .neq t x y t2) (s r : ByteArray) (n : Bool) (hx : a.eval x = .string s) (hy : a.eval y = .string r) (hn : (!(s.toList == r.toList)) = n) :
    (execOp a.eval o).run P w = .ok (.value (.bool n)) w := by
  unfold execOp
  simp only [hop, hx, hy]
  subst hn
  simp [eqGuard, binOp, Op.stringOp]
theorem rfour_nil (wx : World) : Calls Tryd.prog 43 #[.slice none 0 0, .int .i64 2] wx fun e w' => ∃ sp cap, e = .returned (.slice sp 4 cap) ∧ Own8 w' wx.heap.size 5 (.slice sp 4 cap) (n4 2) ∧ Below wx.heap.size wx w' := by
  refine (rfour_any [] 2 (.slice none 0 0) wx wx.heap.size (World.ownsRow_nil _ _ _ _) (by simp) (Nat.le_refl _)).mono ?_
  rintro e w' ⟨sp, cap, rfl, ow, hb, _, _⟩
  exact ⟨sp, cap, rfl, ow, hb⟩

set_option maxRecDepth 20000 in
set_option maxHeartbeats 1000000 in
theorem rBack_type (nm sig : List Int) (q : Int) (mp : Option Addr) (b o ml mc cap : Nat) (w0 : World) (hsl : sig.length = 4292) (hcp : 4292 ≤ cap) (hby : Bytes w0 (some ⟨b, o, none⟩) sig) (hne : (!((strOfNums (sig.take 4)).toList == (strOfNums (n4 2)).toList)) = true) :
    Calls Tryd.prog 20 #[.agg (v8 nm), .int .i64 q, .slice mp ml mc, .slice (some ⟨b, o, none⟩) 4292 cap] w0 fun e w' => e = .returned (.tuple #[.agg (v8 (zer 32)), .int .i64 12]) ∧ Below w0.heap.size w0 w' := by
  have h4l : (sig.take 4).length = 4 := by rw [List.length_take, hsl]; rfl
  have rf := rfour_nil
  have z32 := zv32
  go_enter Tryd.func20, Tryd.ntmps20
  go_upto_region 1 with fail
  have r0 : Row (World.alloc (World.alloc w0 (.cells (v8 nm) 22)) (.cells (v8 (zer 32)) 24)) w0.heap.size 22 (v8 nm) := (Row.new _ _ _).alloc _
  have r1 : Row (World.alloc (World.alloc w0 (.cells (v8 nm) 22)) (.cells (v8 (zer 32)) 24)) (w0.heap.size + 1) 24 (v8 (zer 32)) := Row.newAt _ _ _ _ (by simp)
  have b1 : Below w0.heap.size w0 (World.alloc (World.alloc w0 (.cells (v8 nm) 22)) (.cells (v8 (zer 32)) 24)) := ((Below.refl _ _).alloc (Nat.le_refl _) _).alloc (by simp) _
  change Code.wp _ _ _ _ ((World.alloc (World.alloc w0 (.cells (v8 nm) 22)) (.cells (v8 (zer 32)) 24)))
  generalize (World.alloc (World.alloc w0 (.cells (v8 nm) 22)) (.cells (v8 (zer 32)) 24)) = w1 at r0 r1 b1 ⊢
  have hr1 := r1.lt
  obtain ⟨B, hB⟩ : ∃ B, B = w1.heap.size := ⟨_, rfl⟩
  have hsB : ∀ {w : World}, Below B w1 w → B ≤ w.heap.size := fun h => by have := h.size; omega
  refine region_invFA  (by kernel_rfl) (by kernel_rfl) (fun a0 listed a w => ∃ s16 s17 s18 s19 s20 s21 s22 s23 s24 s25 s26, a = (Act.put (Act.put (Act.put (Act.put (Act.put (Act.put (Act.put (Act.put (Act.put (Act.put (Act.put a0 (some 16) s16) (some 17) s17) (some 18) s18) (some 19) s19) (some 20) s20) (some 21) s21) (some 22) s22) (some 23) s23) (some 24) s24) (some 25) s25) (some 26) s26) ∧ Below B w1 w ∧ (listed.getD 0 false = true → s16 = .slice (some ⟨b, o, none⟩) 4292 cap) ∧ (listed.getD 1 false = true → s17 = .int .i64 4292) ∧ (listed.getD 2 false = true → s18 = .bool false) ∧ (listed.getD 3 false = true → s19 = .bool false) ∧ (listed.getD 4 false = true → s20 = .slice (some ⟨b, o, none⟩) 4292 cap) ∧ (listed.getD 5 false = true → s21 = .slice (some ⟨b, o, none⟩) 4 cap) ∧ (listed.getD 6 false = true → s22 = .string (strOfNums (sig.take 4))) ∧ (listed.getD 7 false = true → listed.getD 8 false = false → OwnS w B s23 4 (n4 2)) ∧ (listed.getD 8 false = true → s24 = .string (strOfNums (n4 2))) ∧ (listed.getD 9 false = true → s25 = .bool true) ∧ (listed.getD 10 false = true → s26 = .bool true)) ?_ ?_ ?_
  all_goals simp only [Act.put, List.setIfInBounds_toArray, List.set_cons_succ, List.set_cons_zero]
  · exact ⟨undef, undef, undef, undef, undef, undef, undef, undef, undef, undef, undef, rfl, (Below.refl B _).drew, (fun h => by rw [getD_replicate_false] at h; cases h), (fun h => by rw [getD_replicate_false] at h; cases h), (fun h => by rw [getD_replicate_false] at h; cases h), (fun h => by rw [getD_replicate_false] at h; cases h), (fun h => by rw [getD_replicate_false] at h; cases h), (fun h => by rw [getD_replicate_false] at h; cases h), (fun h => by rw [getD_replicate_false] at h; cases h), (fun h => by rw [getD_replicate_false] at h; cases h), (fun h => by rw [getD_replicate_false] at h; cases h), (fun h => by rw [getD_replicate_false] at h; cases h), (fun h => by rw [getD_replicate_false] at h; cases h)⟩
  · intro listed a w i o hls hJ hin ho hi hall hcl
    obtain ⟨s16, s17, s18, s19, s20, s21, s22, s23, s24, s25, s26, rfl, hbW, c0, c1, c2, c3, c4, c5, c6, c7, c8, c9, c10⟩ := hJ
    replace hin : i < 11 := hin
    rcases (by omega : i = 0 ∨ i = 1 ∨ i = 2 ∨ i = 3 ∨ i = 4 ∨ i = 5 ∨ i = 6 ∨ i = 7 ∨ i = 8 ∨ i = 9 ∨ i = 10) with rfl | rfl | rfl | rfl | rfl | rfl | rfl | rfl | rfl | rfl | rfl
    · obtain rfl := Option.some.inj ho
      have hsz : 0 < listed.size := by rw [hls]; decide
      have hbw := hbW
      refine inv_val (w' := w) (.slice (some ⟨b, o, none⟩) 4292 cap) rfl rfl rfl ?_
      exact ⟨(.slice (some ⟨b, o, none⟩) 4292 cap), s17, s18, s19, s20, s21, s22, s23, s24, s25, s26, rfl, hbw, (fun _ => rfl), (fun h => c1 (bit_ne h (by decide))), (fun h => c2 (bit_ne h (by decide))), (fun h => c3 (bit_ne h (by decide))), (fun h => c4 (bit_ne h (by decide))), (fun h => c5 (bit_ne h (by decide))), (fun h => c6 (bit_ne h (by decide))), (fun h h2 => c7 (bit_ne h (by decide)) (bit_ne h2 (by decide))), (fun h => c8 (bit_ne h (by decide))), (fun h => c9 (bit_ne h (by decide))), (fun h => c10 (bit_ne h (by decide)))⟩
    · obtain rfl := Option.some.inj ho
      have hsz : 1 < listed.size := by rw [hls]; decide
      have hdep0 : listed.getD 0 false = true := hall ⟨0, .data⟩ (by simp) (by rfl)
      obtain rfl := c0 hdep0
      have hbw := hbW
      refine inv_val (w' := w) (.int .i64 4292) rfl rfl (by kernel_rfl) ?_
      exact ⟨(.slice (some ⟨b, o, none⟩) 4292 cap), (.int .i64 4292), s18, s19, s20, s21, s22, s23, s24, s25, s26, rfl, hbw, (fun h => c0 (bit_ne h (by decide))), (fun _ => rfl), (fun h => c2 (bit_ne h (by decide))), (fun h => c3 (bit_ne h (by decide))), (fun h => c4 (bit_ne h (by decide))), (fun h => c5 (bit_ne h (by decide))), (fun h => c6 (bit_ne h (by decide))), (fun h h2 => c7 (bit_ne h (by decide)) (bit_ne h2 (by decide))), (fun h => c8 (bit_ne h (by decide))), (fun h => c9 (bit_ne h (by decide))), (fun h => c10 (bit_ne h (by decide)))⟩
    · obtain rfl := Option.some.inj ho
      have hsz : 2 < listed.size := by rw [hls]; decide
      have hdep1 : listed.getD 1 false = true := hall ⟨1, .data⟩ (by simp) (by rfl)
      obtain rfl := c1 hdep1
      have hbw := hbW
      refine inv_val (w' := w) (.bool false) rfl rfl (by kernel_rfl) ?_
      exact ⟨s16, (.int .i64 4292), (.bool false), s19, s20, s21, s22, s23, s24, s25, s26, rfl, hbw, (fun h => c0 (bit_ne h (by decide))), (fun h => c1 (bit_ne h (by decide))), (fun _ => rfl), (fun h => c3 (bit_ne h (by decide))), (fun h => c4 (bit_ne h (by decide))), (fun h => c5 (bit_ne h (by decide))), (fun h => c6 (bit_ne h (by decide))), (fun h h2 => c7 (bit_ne h (by decide)) (bit_ne h2 (by decide))), (fun h => c8 (bit_ne h (by decide))), (fun h => c9 (bit_ne h (by decide))), (fun h => c10 (bit_ne h (by decide)))⟩
    · obtain rfl := Option.some.inj ho
      have hsz : 3 < listed.size := by rw [hls]; decide
      have hdep2 : listed.getD 2 false = true := hall ⟨2, .data⟩ (by simp) (by rfl)
      obtain rfl := c2 hdep2
      have hbw := hbW
      refine inv_val (w' := w) (.bool false) rfl rfl rfl ?_
      exact ⟨s16, s17, (.bool false), (.bool false), s20, s21, s22, s23, s24, s25, s26, rfl, hbw, (fun h => c0 (bit_ne h (by decide))), (fun h => c1 (bit_ne h (by decide))), (fun h => c2 (bit_ne h (by decide))), (fun _ => rfl), (fun h => c4 (bit_ne h (by decide))), (fun h => c5 (bit_ne h (by decide))), (fun h => c6 (bit_ne h (by decide))), (fun h h2 => c7 (bit_ne h (by decide)) (bit_ne h2 (by decide))), (fun h => c8 (bit_ne h (by decide))), (fun h => c9 (bit_ne h (by decide))), (fun h => c10 (bit_ne h (by decide)))⟩
    · obtain rfl := Option.some.inj ho
      have hsz : 4 < listed.size := by rw [hls]; decide
      have hdep3 : listed.getD 3 false = true := hall ⟨3, .guard⟩ (by simp) (by rfl)
      obtain rfl := c3 hdep3
      have hbw := hbW
      refine inv_valG (w' := w) (.slice (some ⟨b, o, none⟩) 4292 cap) rfl (by kernel_rfl) rfl ?_
      exact ⟨s16, s17, s18, (.bool false), (.slice (some ⟨b, o, none⟩) 4292 cap), s21, s22, s23, s24, s25, s26, rfl, hbw, (fun h => c0 (bit_ne h (by decide))), (fun h => c1 (bit_ne h (by decide))), (fun h => c2 (bit_ne h (by decide))), (fun h => c3 (bit_ne h (by decide))), (fun _ => rfl), (fun h => c5 (bit_ne h (by decide))), (fun h => c6 (bit_ne h (by decide))), (fun h h2 => c7 (bit_ne h (by decide)) (bit_ne h2 (by decide))), (fun h => c8 (bit_ne h (by decide))), (fun h => c9 (bit_ne h (by decide))), (fun h => c10 (bit_ne h (by decide)))⟩
    · obtain rfl := Option.some.inj ho
      have hsz : 5 < listed.size := by rw [hls]; decide
      have hdep4 : listed.getD 4 false = true := hall ⟨4, .data⟩ (by simp) (by rfl)
      obtain rfl := c4 hdep4
      have hdep3 : listed.getD 3 false = true := hall ⟨3, .guard⟩ (by simp) (by rfl)
      obtain rfl := c3 hdep3
      have hbw := hbW
      refine inv_valG (w' := w) (.slice (some ⟨b, o, none⟩) 4 cap) rfl (by kernel_rfl) (exec_front (.tmp 20) rfl b o 4292 cap rfl (by omega)) ?_
      exact ⟨s16, s17, s18, (.bool false), (.slice (some ⟨b, o, none⟩) 4292 cap), (.slice (some ⟨b, o, none⟩) 4 cap), s22, s23, s24, s25, s26, rfl, hbw, (fun h => c0 (bit_ne h (by decide))), (fun h => c1 (bit_ne h (by decide))), (fun h => c2 (bit_ne h (by decide))), (fun h => c3 (bit_ne h (by decide))), (fun h => c4 (bit_ne h (by decide))), (fun _ => rfl), (fun h => c6 (bit_ne h (by decide))), (fun h h2 => c7 (bit_ne h (by decide)) (bit_ne h2 (by decide))), (fun h => c8 (bit_ne h (by decide))), (fun h => c9 (bit_ne h (by decide))), (fun h => c10 (bit_ne h (by decide)))⟩
    · obtain rfl := Option.some.inj ho
      have hsz : 6 < listed.size := by rw [hls]; decide
      have hdep5 : listed.getD 5 false = true := hall ⟨5, .data⟩ (by simp) (by rfl)
      obtain rfl := c5 hdep5
      have hdep3 : listed.getD 3 false = true := hall ⟨3, .guard⟩ (by simp) (by rfl)
      obtain rfl := c3 hdep3
      have hbw := hbW
      refine inv_valG (w' := w) (.string (strOfNums (sig.take 4))) rfl (by kernel_rfl) (exec_convert8 (.tmp 21) rfl _ _ _ (sig.take 4) rfl h4l (by omega) ((hby.below (b1.trans (hbW.mono (by omega)))).take 4)) ?_
      exact ⟨s16, s17, s18, (.bool false), s20, (.slice (some ⟨b, o, none⟩) 4 cap), (.string (strOfNums (sig.take 4))), s23, s24, s25, s26, rfl, hbw, (fun h => c0 (bit_ne h (by decide))), (fun h => c1 (bit_ne h (by decide))), (fun h => c2 (bit_ne h (by decide))), (fun h => c3 (bit_ne h (by decide))), (fun h => c4 (bit_ne h (by decide))), (fun h => c5 (bit_ne h (by decide))), (fun _ => rfl), (fun h h2 => c7 (bit_ne h (by decide)) (bit_ne h2 (by decide))), (fun h => c8 (bit_ne h (by decide))), (fun h => c9 (bit_ne h (by decide))), (fun h => c10 (bit_ne h (by decide)))⟩
    · obtain rfl := Option.some.inj ho
      have hsz : 7 < listed.size := by rw [hls]; decide
      have hdep3 : listed.getD 3 false = true := hall ⟨3, .guard⟩ (by simp) (by rfl)
      obtain rfl := c3 hdep3
      refine inv_callG 43 #[.slice none 0 0, .int .i64 2] _ rfl (by kernel_rfl) (by kernel_rfl) (rf w) ?_
      rintro e w' ⟨sp, cap, rfl, ow, hb⟩
      have hbw : Below B w1 w' := hbW.trans (hb.mono (hsB hbW))
      refine ⟨_, rfl, ?_⟩
      exact ⟨s16, s17, s18, (.bool false), s20, s21, s22, (.slice sp 4 cap), s24, s25, s26, rfl, hbw, (fun h => c0 (bit_ne h (by decide))), (fun h => c1 (bit_ne h (by decide))), (fun h => c2 (bit_ne h (by decide))), (fun h => c3 (bit_ne h (by decide))), (fun h => c4 (bit_ne h (by decide))), (fun h => c5 (bit_ne h (by decide))), (fun h => c6 (bit_ne h (by decide))), (fun _ _ => ⟨sp, cap, rfl, ow.mono (hsB hbW)⟩), (fun h => c8 (bit_ne h (by decide))), (fun h => c9 (bit_ne h (by decide))), (fun h => c10 (bit_ne h (by decide)))⟩
    · obtain rfl := Option.some.inj ho
      have hsz : 8 < listed.size := by rw [hls]; decide
      have hdep7 : listed.getD 7 false = true := hall ⟨7, .data⟩ (by simp) (by rfl)
      obtain ⟨sp7, cap7, rfl, o7⟩ := c7 hdep7 hi
      have hdep3 : listed.getD 3 false = true := hall ⟨3, .guard⟩ (by simp) (by rfl)
      obtain rfl := c3 hdep3
      have hbw := hbW
      refine inv_valG (w' := w) (.string (strOfNums (n4 2))) rfl (by kernel_rfl) (exec_convert8 (.tmp 23) rfl _ _ _ (n4 2) rfl rfl (by omega) o7.bytes) ?_
      exact ⟨s16, s17, s18, (.bool false), s20, s21, s22, (.slice sp7 4 cap7), (.string (strOfNums (n4 2))), s25, s26, rfl, hbw, (fun h => c0 (bit_ne h (by decide))), (fun h => c1 (bit_ne h (by decide))), (fun h => c2 (bit_ne h (by decide))), (fun h => c3 (bit_ne h (by decide))), (fun h => c4 (bit_ne h (by decide))), (fun h => c5 (bit_ne h (by decide))), (fun h => c6 (bit_ne h (by decide))), (fun _ h2 => absurd (bit_on hsz) (by rw [h2]; decide)), (fun _ => rfl), (fun h => c9 (bit_ne h (by decide))), (fun h => c10 (bit_ne h (by decide)))⟩
    · obtain rfl := Option.some.inj ho
      have hsz : 9 < listed.size := by rw [hls]; decide
      have hdep6 : listed.getD 6 false = true := hall ⟨6, .data⟩ (by simp) (by rfl)
      obtain rfl := c6 hdep6
      have hdep8 : listed.getD 8 false = true := hall ⟨8, .data⟩ (by simp) (by rfl)
      obtain rfl := c8 hdep8
      have hdep3 : listed.getD 3 false = true := hall ⟨3, .guard⟩ (by simp) (by rfl)
      obtain rfl := c3 hdep3
      have hbw := hbW
      refine inv_valG (w' := w) (.bool true) rfl (by kernel_rfl) (exec_neq_str 9 9 (.tmp 22) (.tmp 24) rfl _ _ true rfl rfl hne) ?_
      exact ⟨s16, s17, s18, (.bool false), s20, s21, (.string (strOfNums (sig.take 4))), s23, (.string (strOfNums (n4 2))), (.bool true), s26, rfl, hbw, (fun h => c0 (bit_ne h (by decide))), (fun h => c1 (bit_ne h (by decide))), (fun h => c2 (bit_ne h (by decide))), (fun h => c3 (bit_ne h (by decide))), (fun h => c4 (bit_ne h (by decide))), (fun h => c5 (bit_ne h (by decide))), (fun h => c6 (bit_ne h (by decide))), (fun h h2 => c7 (bit_ne h (by decide)) (bit_ne h2 (by decide))), (fun h => c8 (bit_ne h (by decide))), (fun _ => rfl), (fun h => c10 (bit_ne h (by decide)))⟩
    · obtain rfl := Option.some.inj ho
      have hsz : 10 < listed.size := by rw [hls]; decide
      have hdep3 : listed.getD 3 false = true := hall ⟨3, .data⟩ (by simp) (by rfl)
      obtain rfl := c3 hdep3
      have hdep9 : listed.getD 9 false = true := hall ⟨9, .data⟩ (by simp) (by rfl)
      obtain rfl := c9 hdep9
      have hbw := hbW
      refine inv_val (w' := w) (.bool true) rfl rfl (by kernel_rfl) ?_
      exact ⟨s16, s17, s18, (.bool false), s20, s21, s22, s23, s24, (.bool true), (.bool true), rfl, hbw, (fun h => c0 (bit_ne h (by decide))), (fun h => c1 (bit_ne h (by decide))), (fun h => c2 (bit_ne h (by decide))), (fun h => c3 (bit_ne h (by decide))), (fun h => c4 (bit_ne h (by decide))), (fun h => c5 (bit_ne h (by decide))), (fun h => c6 (bit_ne h (by decide))), (fun h h2 => c7 (bit_ne h (by decide)) (bit_ne h2 (by decide))), (fun h => c8 (bit_ne h (by decide))), (fun h => c9 (bit_ne h (by decide))), (fun _ => rfl)⟩
  · intro listed a w hall hJ
    obtain ⟨s16, s17, s18, s19, s20, s21, s22, s23, s24, s25, s26, rfl, hbW, c0, c1, c2, c3, c4, c5, c6, c7, c8, c9, c10⟩ := hJ
    obtain rfl := c0 (hall 0 (by decide))
    obtain rfl := c1 (hall 1 (by decide))
    obtain rfl := c2 (hall 2 (by decide))
    obtain rfl := c3 (hall 3 (by decide))
    obtain rfl := c4 (hall 4 (by decide))
    obtain rfl := c5 (hall 5 (by decide))
    obtain rfl := c6 (hall 6 (by decide))
    obtain rfl := c8 (hall 8 (by decide))
    obtain rfl := c9 (hall 9 (by decide))
    obtain rfl := c10 (hall 10 (by decide))
    have v1 := r1.below hbW (by omega)
    have vb := b1.trans (hbW.mono (by omega))
    go_wp2_with (refine store_row0 24 (.tmp 8) (.tmp 27) (by rfl) (by rfl) (by rfl) (w0.heap.size + 1) (v8 (zer 32)) (by rfl) (by rfl) 24 _ v1 (id_info (zer_len 32)) rfl (v8_one _) ?_)
    exact bodyPost_ret (results_row_tmp Tryd.results20 _ _ (w0.heap.size + 1) 24 (v8 (zer 32)) _ rfl (v1.setRow _) Tryd.underlying24 rfl (id_info (zer_len 32))) rfl ⟨rfl, below_setRow vb (by omega) _⟩

set_option maxRecDepth 20000 in
set_option maxHeartbeats 1000000 in
theorem rBack_len (nm : List Int) (q : Int) (mp sp : Option Addr) (ml mc len cap : Nat) (w0 : World) (h : len ≠ 4292) :
    Calls Tryd.prog 20 #[.agg (v8 nm), .int .i64 q, .slice mp ml mc, .slice sp len cap] w0 fun e w' => e = .returned (.tuple #[.agg (v8 (zer 32)), .int .i64 12]) ∧ Below w0.heap.size w0 w' := by
  have z32 := zv32
  have hneb : ((len : Int) != 4292) = true := by simp; omega
  go_enter Tryd.func20, Tryd.ntmps20
  go_upto_region 1 with fail
  have r1 : Row (World.alloc (World.alloc w0 (.cells (v8 nm) 22)) (.cells (v8 (zer 32)) 24)) (w0.heap.size + 1) 24 (v8 (zer 32)) := Row.newAt _ _ _ _ (by simp)
  have b1 : Below w0.heap.size w0 (World.alloc (World.alloc w0 (.cells (v8 nm) 22)) (.cells (v8 (zer 32)) 24)) := ((Below.refl _ _).alloc (Nat.le_refl _) _).alloc (by simp) _
  change Code.wp _ _ _ _ ((World.alloc (World.alloc w0 (.cells (v8 nm) 22)) (.cells (v8 (zer 32)) 24)))
  generalize (World.alloc (World.alloc w0 (.cells (v8 nm) 22)) (.cells (v8 (zer 32)) 24)) = w1 at r1 b1 ⊢
  refine region_tail 10 (by kernel_rfl) (by kernel_rfl) (by kernel_rfl) ?_
  apply Exists.intro
  refine ⟨fun ι _ W hb hc => ?_, fun w6 hb6 => ?_⟩
  · simp only [List.take_succ_cons, List.take_zero]
    repeat (go_big_quiet_step (fail))
    exact wpQuiet_nil rfl
  · simp only [List.drop_succ_cons, List.drop_zero]
    have v1 := r1.below hb6 r1.lt
    have vb := b1.trans (hb6.mono b1.size)
    go_wp2_with (refine store_row0 24 (.tmp 8) (.tmp 27) (by rfl) (by rfl) (by rfl) (w0.heap.size + 1) (v8 (zer 32)) (by rfl) (by rfl) 24 _ v1 (id_info (zer_len 32)) rfl (v8_one _) ?_)
    exact bodyPost_ret (results_row_tmp Tryd.results20 _ _ (w0.heap.size + 1) 24 (v8 (zer 32)) _ rfl (v1.setRow _) Tryd.underlying24 rfl (id_info (zer_len 32))) rfl ⟨rfl, below_setRow vb (by omega) _⟩
end

section
open Go Go.RowKit

set_option maxRecDepth 20000 in
set_option maxHeartbeats 1000000 in
theorem rBack_ok (S : List Int → List Int) (hS : Hash S) (msg : List Int) (nm sig : List Int) (q : Int) (mp : Option Addr) (b o ml mc cap : Nat) (w0 : World) (hn : nm.length = 16) (hml : msg.length = ml) (hmn : mp = none → mc = 0 ∧ ml = 0) (hmm : ml ≤ 1000000) (hmb : Bytes w0 mp msg) (hsl : sig.length = 4292) (hcp : 4292 ≤ cap) (hby : Bytes w0 (some ⟨b, o, none⟩) sig) (hty : sig.take 4 = n4 2) :
    Calls Tryd.prog 20 #[.agg (v8 nm), .int .i64 q, .slice mp ml mc, .slice (some ⟨b, o, none⟩) 4292 cap] w0 fun e w' => e = .returned (.tuple #[.agg (v8 (backL S (nm ++ n4 q) msg sig)), .int .i64 0]) ∧ Below w0.heap.size w0 w' := by
  have hH : (nm ++ n4 q).length = 20 := by rw [List.length_append, hn, n4_len]
  have hL22 : (nm ++ n4 q ++ [128, 128]).length = 22 := by rw [List.length_append, hH]; rfl
  have hdg : ∀ cc wx, Bytes wx (some ⟨b, o + 4, none⟩) (cutL sig 4) → Bytes wx mp msg → Calls Tryd.prog 42 #[.agg (v8 nm), .int .i64 q, .slice (some ⟨b, o + 4, none⟩) 32 cc, .slice mp ml mc] wx fun e w' => e = .returned (.agg (v64 (digsL (textL S (nm ++ n4 q) (cutL sig 4) msg)))) ∧ Below wx.heap.size wx w' := fun cc wx h2 h3 =>
    rdigits_any S hS nm (cutL sig 4) msg q (some ⟨b, o + 4, none⟩) mp 32 cc ml mc wx hn (by unfold cutL; simp; omega) (fun h => by cases h) h2 (by omega) hml hmn h3 hmm
  have hbk : backL S (nm ++ n4 q) msg sig = topL S (nm ++ n4 q) (wL S (nm ++ n4 q) (textL S (nm ++ n4 q) (cutL sig 4) msg) sig) := rfl
  rw [hbk]
  clear hbk
  generalize textL S (nm ++ n4 q) (cutL sig 4) msg = Q at *
  have hcutl : ∀ k, k < 133 → (cutL sig (36 + 32 * k)).length = 32 := fun k hk => by unfold cutL; simp; omega
  have hcutat : ∀ k, k < 133 → ∀ j, j < 32 → gi (cutL sig (36 + 32 * k)) j = gi sig (36 + 32 * k + j) := fun k hk j hj => by
    unfold cutL gi
    simp only [List.getD_eq_getElem?_getD, List.getElem?_take_of_lt hj, List.getElem?_drop]
  obtain ⟨Y, hY⟩ : ∃ Y : Nat → List Int, Y = fun i => if i < 133 then wL S (nm ++ n4 q) Q sig i else zer 32 := ⟨_, rfl⟩
  have hYw : ∀ k, k < 133 → wL S (nm ++ n4 q) Q sig k = Y k := fun k hk => by rw [hY]; simp [hk]
  have hYl : ∀ i, (Y i).length = 32 := fun i => by
    rw [hY]
    by_cases hi : i < 133
    · simp only [hi, if_true]; unfold wL; exact walkL_len (fun l => hS.len l) _ _ _ _ (hcutl i hi) _
    · simp only [hi, if_false]; exact zer_len 32
  have htop : topL S (nm ++ n4 q) (wL S (nm ++ n4 q) Q sig) = S (nm ++ n4 q ++ [128, 128] ++ catN Y 133) := by unfold topL; rw [catN_congr 133 hYw]
  have hw : ∀ k : Nat, k < 133 → ∀ wx, Calls Tryd.prog 34 #[.agg (v8 nm), .int .i64 q, .int .i64 (k : Int), .int .i64 (digN (fullL Q) k), .int .i64 3, .agg (v8 (cutL sig (36 + 32 * k)))] wx fun e w' => e = .returned (.agg (v8 (Y k))) ∧ Below wx.heap.size wx w' := fun k hk wx => by
    have hd := digN_nat (fullL Q) k
    have := rwalk_any S hS nm (cutL sig (36 + 32 * k)) q k (digN (fullL Q) k).toNat 3 wx hn (hcutl k hk) (by omega)
    rw [hd.1] at this
    rw [← hYw k hk]
    exact this
  clear hYw hY
  have hSl : (topL S (nm ++ n4 q) (wL S (nm ++ n4 q) Q sig)).length = 32 := hS.len _
  have hDl := digsL_len Q
  have hDat : ∀ k, k < 133 → gi (digsL Q) k = digN (fullL Q) k := digsL_at Q
  have hcl' : Hid (∀ k, (catN Y k).length = 32 * k) := catN_len hYl
  have hC0 : catN Y 0 = [] := rfl
  have hCs' : Hid (∀ k, catN Y (k + 1) = catN Y k ++ Y k) := fun _ => rfl
  have htop' : Hid (topL S (nm ++ n4 q) (wL S (nm ++ n4 q) Q sig) = S (nm ++ n4 q ++ [128, 128] ++ catN Y 133)) := htop
  clear htop
  generalize topL S (nm ++ n4 q) (wL S (nm ++ n4 q) Q sig) = PK at *
  generalize catN Y = C at *
  generalize digsL Q = DG at *
  generalize digN (fullL Q) = D at *
  obtain ⟨CU, hCU⟩ : ∃ CU : Nat → List Int, CU = fun k => cutL sig (36 + 32 * k) := ⟨_, rfl⟩
  have hcutl : ∀ k, k < 133 → (CU k).length = 32 := fun k hk => by rw [hCU]; exact hcutl k hk
  have hcutat : ∀ k, k < 133 → ∀ j, j < 32 → gi (CU k) j = gi sig (36 + 32 * k + j) := fun k hk => by rw [hCU]; exact hcutat k hk
  have hw : ∀ k : Nat, k < 133 → ∀ wx, Calls Tryd.prog 34 #[.agg (v8 nm), .int .i64 q, .int .i64 (k : Int), .int .i64 (D k), .int .i64 3, .agg (v8 (CU k))] wx fun e w' => e = .returned (.agg (v8 (Y k))) ∧ Below wx.heap.size wx w' := fun k hk => by rw [hCU]; exact hw k hk
  clear hCU
  have h4l : (sig.take 4).length = 4 := by rw [List.length_take, hsl]; rfl
  have rf := rfour_nil
  have z32 := zv32
  go_enter Tryd.func20, Tryd.ntmps20
  go_upto_region 1 with fail
  have r0 : Row (World.alloc (World.alloc w0 (.cells (v8 nm) 22)) (.cells (v8 (zer 32)) 24)) w0.heap.size 22 (v8 nm) := (Row.new _ _ _).alloc _
  have r1 : Row (World.alloc (World.alloc w0 (.cells (v8 nm) 22)) (.cells (v8 (zer 32)) 24)) (w0.heap.size + 1) 24 (v8 (zer 32)) := Row.newAt _ _ _ _ (by simp)
  have b1 : Below w0.heap.size w0 (World.alloc (World.alloc w0 (.cells (v8 nm) 22)) (.cells (v8 (zer 32)) 24)) := ((Below.refl _ _).alloc (Nat.le_refl _) _).alloc (by simp) _
  change Code.wp _ _ _ _ ((World.alloc (World.alloc w0 (.cells (v8 nm) 22)) (.cells (v8 (zer 32)) 24)))
  generalize (World.alloc (World.alloc w0 (.cells (v8 nm) 22)) (.cells (v8 (zer 32)) 24)) = w1 at r0 r1 b1 ⊢
  have hr1 := r1.lt
  obtain ⟨B, hB⟩ : ∃ B, B = w1.heap.size := ⟨_, rfl⟩
  have hsB : ∀ {w : World}, Below B w1 w → B ≤ w.heap.size := fun h => by have := h.size; omega
  refine region_invFA  (by kernel_rfl) (by kernel_rfl) (fun a0 listed a w => ∃ s16 s17 s18 s19 s20 s21 s22 s23 s24 s25 s26, a = (Act.put (Act.put (Act.put (Act.put (Act.put (Act.put (Act.put (Act.put (Act.put (Act.put (Act.put a0 (some 16) s16) (some 17) s17) (some 18) s18) (some 19) s19) (some 20) s20) (some 21) s21) (some 22) s22) (some 23) s23) (some 24) s24) (some 25) s25) (some 26) s26) ∧ Below B w1 w ∧ (listed.getD 0 false = true → s16 = .slice (some ⟨b, o, none⟩) 4292 cap) ∧ (listed.getD 1 false = true → s17 = .int .i64 4292) ∧ (listed.getD 2 false = true → s18 = .bool false) ∧ (listed.getD 3 false = true → s19 = .bool false) ∧ (listed.getD 4 false = true → s20 = .slice (some ⟨b, o, none⟩) 4292 cap) ∧ (listed.getD 5 false = true → s21 = .slice (some ⟨b, o, none⟩) 4 cap) ∧ (listed.getD 6 false = true → s22 = .string (strOfNums (sig.take 4))) ∧ (listed.getD 7 false = true → listed.getD 8 false = false → OwnS w B s23 4 (n4 2)) ∧ (listed.getD 8 false = true → s24 = .string (strOfNums (n4 2))) ∧ (listed.getD 9 false = true → s25 = .bool false) ∧ (listed.getD 10 false = true → s26 = .bool false)) ?_ ?_ ?_
  all_goals simp only [Act.put, List.setIfInBounds_toArray, List.set_cons_succ, List.set_cons_zero]
  · exact ⟨undef, undef, undef, undef, undef, undef, undef, undef, undef, undef, undef, rfl, (Below.refl B _).drew, (fun h => by rw [getD_replicate_false] at h; cases h), (fun h => by rw [getD_replicate_false] at h; cases h), (fun h => by rw [getD_replicate_false] at h; cases h), (fun h => by rw [getD_replicate_false] at h; cases h), (fun h => by rw [getD_replicate_false] at h; cases h), (fun h => by rw [getD_replicate_false] at h; cases h), (fun h => by rw [getD_replicate_false] at h; cases h), (fun h => by rw [getD_replicate_false] at h; cases h), (fun h => by rw [getD_replicate_false] at h; cases h), (fun h => by rw [getD_replicate_false] at h; cases h), (fun h => by rw [getD_replicate_false] at h; cases h)⟩
  · intro listed a w i o hls hJ hin ho hi hall hcl
    obtain ⟨s16, s17, s18, s19, s20, s21, s22, s23, s24, s25, s26, rfl, hbW, c0, c1, c2, c3, c4, c5, c6, c7, c8, c9, c10⟩ := hJ
    replace hin : i < 11 := hin
    rcases (by omega : i = 0 ∨ i = 1 ∨ i = 2 ∨ i = 3 ∨ i = 4 ∨ i = 5 ∨ i = 6 ∨ i = 7 ∨ i = 8 ∨ i = 9 ∨ i = 10) with rfl | rfl | rfl | rfl | rfl | rfl | rfl | rfl | rfl | rfl | rfl
    · obtain rfl := Option.some.inj ho
      have hsz : 0 < listed.size := by rw [hls]; decide
      have hbw := hbW
      refine inv_val (w' := w) (.slice (some ⟨b, o, none⟩) 4292 cap) rfl rfl rfl ?_
      exact ⟨(.slice (some ⟨b, o, none⟩) 4292 cap), s17, s18, s19, s20, s21, s22, s23, s24, s25, s26, rfl, hbw, (fun _ => rfl), (fun h => c1 (bit_ne h (by decide))), (fun h => c2 (bit_ne h (by decide))), (fun h => c3 (bit_ne h (by decide))), (fun h => c4 (bit_ne h (by decide))), (fun h => c5 (bit_ne h (by decide))), (fun h => c6 (bit_ne h (by decide))), (fun h h2 => c7 (bit_ne h (by decide)) (bit_ne h2 (by decide))), (fun h => c8 (bit_ne h (by decide))), (fun h => c9 (bit_ne h (by decide))), (fun h => c10 (bit_ne h (by decide)))⟩
    · obtain rfl := Option.some.inj ho
      have hsz : 1 < listed.size := by rw [hls]; decide
      have hdep0 : listed.getD 0 false = true := hall ⟨0, .data⟩ (by simp) (by rfl)
      obtain rfl := c0 hdep0
      have hbw := hbW
      refine inv_val (w' := w) (.int .i64 4292) rfl rfl (by kernel_rfl) ?_
      exact ⟨(.slice (some ⟨b, o, none⟩) 4292 cap), (.int .i64 4292), s18, s19, s20, s21, s22, s23, s24, s25, s26, rfl, hbw, (fun h => c0 (bit_ne h (by decide))), (fun _ => rfl), (fun h => c2 (bit_ne h (by decide))), (fun h => c3 (bit_ne h (by decide))), (fun h => c4 (bit_ne h (by decide))), (fun h => c5 (bit_ne h (by decide))), (fun h => c6 (bit_ne h (by decide))), (fun h h2 => c7 (bit_ne h (by decide)) (bit_ne h2 (by decide))), (fun h => c8 (bit_ne h (by decide))), (fun h => c9 (bit_ne h (by decide))), (fun h => c10 (bit_ne h (by decide)))⟩
    · obtain rfl := Option.some.inj ho
      have hsz : 2 < listed.size := by rw [hls]; decide
      have hdep1 : listed.getD 1 false = true := hall ⟨1, .data⟩ (by simp) (by rfl)
      obtain rfl := c1 hdep1
      have hbw := hbW
      refine inv_val (w' := w) (.bool false) rfl rfl (by kernel_rfl) ?_
      exact ⟨s16, (.int .i64 4292), (.bool false), s19, s20, s21, s22, s23, s24, s25, s26, rfl, hbw, (fun h => c0 (bit_ne h (by decide))), (fun h => c1 (bit_ne h (by decide))), (fun _ => rfl), (fun h => c3 (bit_ne h (by decide))), (fun h => c4 (bit_ne h (by decide))), (fun h => c5 (bit_ne h (by decide))), (fun h => c6 (bit_ne h (by decide))), (fun h h2 => c7 (bit_ne h (by decide)) (bit_ne h2 (by decide))), (fun h => c8 (bit_ne h (by decide))), (fun h => c9 (bit_ne h (by decide))), (fun h => c10 (bit_ne h (by decide)))⟩
    · obtain rfl := Option.some.inj ho
      have hsz : 3 < listed.size := by rw [hls]; decide
      have hdep2 : listed.getD 2 false = true := hall ⟨2, .data⟩ (by simp) (by rfl)
      obtain rfl := c2 hdep2
      have hbw := hbW
      refine inv_val (w' := w) (.bool false) rfl rfl rfl ?_
      exact ⟨s16, s17, (.bool false), (.bool false), s20, s21, s22, s23, s24, s25, s26, rfl, hbw, (fun h => c0 (bit_ne h (by decide))), (fun h => c1 (bit_ne h (by decide))), (fun h => c2 (bit_ne h (by decide))), (fun _ => rfl), (fun h => c4 (bit_ne h (by decide))), (fun h => c5 (bit_ne h (by decide))), (fun h => c6 (bit_ne h (by decide))), (fun h h2 => c7 (bit_ne h (by decide)) (bit_ne h2 (by decide))), (fun h => c8 (bit_ne h (by decide))), (fun h => c9 (bit_ne h (by decide))), (fun h => c10 (bit_ne h (by decide)))⟩
    · obtain rfl := Option.some.inj ho
      have hsz : 4 < listed.size := by rw [hls]; decide
      have hdep3 : listed.getD 3 false = true := hall ⟨3, .guard⟩ (by simp) (by rfl)
      obtain rfl := c3 hdep3
      have hbw := hbW
      refine inv_valG (w' := w) (.slice (some ⟨b, o, none⟩) 4292 cap) rfl (by kernel_rfl) rfl ?_
      exact ⟨s16, s17, s18, (.bool false), (.slice (some ⟨b, o, none⟩) 4292 cap), s21, s22, s23, s24, s25, s26, rfl, hbw, (fun h => c0 (bit_ne h (by decide))), (fun h => c1 (bit_ne h (by decide))), (fun h => c2 (bit_ne h (by decide))), (fun h => c3 (bit_ne h (by decide))), (fun _ => rfl), (fun h => c5 (bit_ne h (by decide))), (fun h => c6 (bit_ne h (by decide))), (fun h h2 => c7 (bit_ne h (by decide)) (bit_ne h2 (by decide))), (fun h => c8 (bit_ne h (by decide))), (fun h => c9 (bit_ne h (by decide))), (fun h => c10 (bit_ne h (by decide)))⟩
    · obtain rfl := Option.some.inj ho
      have hsz : 5 < listed.size := by rw [hls]; decide
      have hdep4 : listed.getD 4 false = true := hall ⟨4, .data⟩ (by simp) (by rfl)
      obtain rfl := c4 hdep4
      have hdep3 : listed.getD 3 false = true := hall ⟨3, .guard⟩ (by simp) (by rfl)
      obtain rfl := c3 hdep3
      have hbw := hbW
      refine inv_valG (w' := w) (.slice (some ⟨b, o, none⟩) 4 cap) rfl (by kernel_rfl) (exec_front (.tmp 20) rfl b o 4292 cap rfl (by omega)) ?_
      exact ⟨s16, s17, s18, (.bool false), (.slice (some ⟨b, o, none⟩) 4292 cap), (.slice (some ⟨b, o, none⟩) 4 cap), s22, s23, s24, s25, s26, rfl, hbw, (fun h => c0 (bit_ne h (by decide))), (fun h => c1 (bit_ne h (by decide))), (fun h => c2 (bit_ne h (by decide))), (fun h => c3 (bit_ne h (by decide))), (fun h => c4 (bit_ne h (by decide))), (fun _ => rfl), (fun h => c6 (bit_ne h (by decide))), (fun h h2 => c7 (bit_ne h (by decide)) (bit_ne h2 (by decide))), (fun h => c8 (bit_ne h (by decide))), (fun h => c9 (bit_ne h (by decide))), (fun h => c10 (bit_ne h (by decide)))⟩
    · obtain rfl := Option.some.inj ho
      have hsz : 6 < listed.size := by rw [hls]; decide
      have hdep5 : listed.getD 5 false = true := hall ⟨5, .data⟩ (by simp) (by rfl)
      obtain rfl := c5 hdep5
      have hdep3 : listed.getD 3 false = true := hall ⟨3, .guard⟩ (by simp) (by rfl)
      obtain rfl := c3 hdep3
      have hbw := hbW
      refine inv_valG (w' := w) (.string (strOfNums (sig.take 4))) rfl (by kernel_rfl) (exec_convert8 (.tmp 21) rfl _ _ _ (sig.take 4) rfl h4l (by omega) ((hby.below (b1.trans (hbW.mono (by omega)))).take 4)) ?_
      exact ⟨s16, s17, s18, (.bool false), s20, (.slice (some ⟨b, o, none⟩) 4 cap), (.string (strOfNums (sig.take 4))), s23, s24, s25, s26, rfl, hbw, (fun h => c0 (bit_ne h (by decide))), (fun h => c1 (bit_ne h (by decide))), (fun h => c2 (bit_ne h (by decide))), (fun h => c3 (bit_ne h (by decide))), (fun h => c4 (bit_ne h (by decide))), (fun h => c5 (bit_ne h (by decide))), (fun _ => rfl), (fun h h2 => c7 (bit_ne h (by decide)) (bit_ne h2 (by decide))), (fun h => c8 (bit_ne h (by decide))), (fun h => c9 (bit_ne h (by decide))), (fun h => c10 (bit_ne h (by decide)))⟩
    · obtain rfl := Option.some.inj ho
      have hsz : 7 < listed.size := by rw [hls]; decide
      have hdep3 : listed.getD 3 false = true := hall ⟨3, .guard⟩ (by simp) (by rfl)
      obtain rfl := c3 hdep3
      refine inv_callG 43 #[.slice none 0 0, .int .i64 2] _ rfl (by kernel_rfl) (by kernel_rfl) (rf w) ?_
      rintro e w' ⟨sp, cap, rfl, ow, hb⟩
      have hbw : Below B w1 w' := hbW.trans (hb.mono (hsB hbW))
      refine ⟨_, rfl, ?_⟩
      exact ⟨s16, s17, s18, (.bool false), s20, s21, s22, (.slice sp 4 cap), s24, s25, s26, rfl, hbw, (fun h => c0 (bit_ne h (by decide))), (fun h => c1 (bit_ne h (by decide))), (fun h => c2 (bit_ne h (by decide))), (fun h => c3 (bit_ne h (by decide))), (fun h => c4 (bit_ne h (by decide))), (fun h => c5 (bit_ne h (by decide))), (fun h => c6 (bit_ne h (by decide))), (fun _ _ => ⟨sp, cap, rfl, ow.mono (hsB hbW)⟩), (fun h => c8 (bit_ne h (by decide))), (fun h => c9 (bit_ne h (by decide))), (fun h => c10 (bit_ne h (by decide)))⟩
    · obtain rfl := Option.some.inj ho
      have hsz : 8 < listed.size := by rw [hls]; decide
      have hdep7 : listed.getD 7 false = true := hall ⟨7, .data⟩ (by simp) (by rfl)
      obtain ⟨sp7, cap7, rfl, o7⟩ := c7 hdep7 hi
      have hdep3 : listed.getD 3 false = true := hall ⟨3, .guard⟩ (by simp) (by rfl)
      obtain rfl := c3 hdep3
      have hbw := hbW
      refine inv_valG (w' := w) (.string (strOfNums (n4 2))) rfl (by kernel_rfl) (exec_convert8 (.tmp 23) rfl _ _ _ (n4 2) rfl rfl (by omega) o7.bytes) ?_
      exact ⟨s16, s17, s18, (.bool false), s20, s21, s22, (.slice sp7 4 cap7), (.string (strOfNums (n4 2))), s25, s26, rfl, hbw, (fun h => c0 (bit_ne h (by decide))), (fun h => c1 (bit_ne h (by decide))), (fun h => c2 (bit_ne h (by decide))), (fun h => c3 (bit_ne h (by decide))), (fun h => c4 (bit_ne h (by decide))), (fun h => c5 (bit_ne h (by decide))), (fun h => c6 (bit_ne h (by decide))), (fun _ h2 => absurd (bit_on hsz) (by rw [h2]; decide)), (fun _ => rfl), (fun h => c9 (bit_ne h (by decide))), (fun h => c10 (bit_ne h (by decide)))⟩
    · obtain rfl := Option.some.inj ho
      have hsz : 9 < listed.size := by rw [hls]; decide
      have hdep6 : listed.getD 6 false = true := hall ⟨6, .data⟩ (by simp) (by rfl)
      obtain rfl := c6 hdep6
      have hdep8 : listed.getD 8 false = true := hall ⟨8, .data⟩ (by simp) (by rfl)
      obtain rfl := c8 hdep8
      have hdep3 : listed.getD 3 false = true := hall ⟨3, .guard⟩ (by simp) (by rfl)
      obtain rfl := c3 hdep3
      have hbw := hbW
      refine inv_valG (w' := w) (.bool false) rfl (by kernel_rfl) (exec_neq_str 9 9 (.tmp 22) (.tmp 24) rfl _ _ false rfl rfl (by rw [hty]; simp)) ?_
      exact ⟨s16, s17, s18, (.bool false), s20, s21, (.string (strOfNums (sig.take 4))), s23, (.string (strOfNums (n4 2))), (.bool false), s26, rfl, hbw, (fun h => c0 (bit_ne h (by decide))), (fun h => c1 (bit_ne h (by decide))), (fun h => c2 (bit_ne h (by decide))), (fun h => c3 (bit_ne h (by decide))), (fun h => c4 (bit_ne h (by decide))), (fun h => c5 (bit_ne h (by decide))), (fun h => c6 (bit_ne h (by decide))), (fun h h2 => c7 (bit_ne h (by decide)) (bit_ne h2 (by decide))), (fun h => c8 (bit_ne h (by decide))), (fun _ => rfl), (fun h => c10 (bit_ne h (by decide)))⟩
    · obtain rfl := Option.some.inj ho
      have hsz : 10 < listed.size := by rw [hls]; decide
      have hdep3 : listed.getD 3 false = true := hall ⟨3, .data⟩ (by simp) (by rfl)
      obtain rfl := c3 hdep3
      have hdep9 : listed.getD 9 false = true := hall ⟨9, .data⟩ (by simp) (by rfl)
      obtain rfl := c9 hdep9
      have hbw := hbW
      refine inv_val (w' := w) (.bool false) rfl rfl (by kernel_rfl) ?_
      exact ⟨s16, s17, s18, (.bool false), s20, s21, s22, s23, s24, (.bool false), (.bool false), rfl, hbw, (fun h => c0 (bit_ne h (by decide))), (fun h => c1 (bit_ne h (by decide))), (fun h => c2 (bit_ne h (by decide))), (fun h => c3 (bit_ne h (by decide))), (fun h => c4 (bit_ne h (by decide))), (fun h => c5 (bit_ne h (by decide))), (fun h => c6 (bit_ne h (by decide))), (fun h h2 => c7 (bit_ne h (by decide)) (bit_ne h2 (by decide))), (fun h => c8 (bit_ne h (by decide))), (fun h => c9 (bit_ne h (by decide))), (fun _ => rfl)⟩
  · intro listed a w hall hJ
    obtain ⟨s16, s17, s18, s19, s20, s21, s22, s23, s24, s25, s26, rfl, hbW, c0, c1, c2, c3, c4, c5, c6, c7, c8, c9, c10⟩ := hJ
    obtain rfl := c0 (hall 0 (by decide))
    obtain rfl := c1 (hall 1 (by decide))
    obtain rfl := c2 (hall 2 (by decide))
    obtain rfl := c3 (hall 3 (by decide))
    obtain rfl := c4 (hall 4 (by decide))
    obtain rfl := c5 (hall 5 (by decide))
    obtain rfl := c6 (hall 6 (by decide))
    obtain rfl := c8 (hall 8 (by decide))
    obtain rfl := c9 (hall 9 (by decide))
    obtain rfl := c10 (hall 10 (by decide))
    have p0 := r0.below hbW (by omega)
    have p1 := r1.below hbW (by omega)
    have pb := b1.trans (hbW.mono (by omega))
    clear r0 r1 b1 hbW c0 c1 c2 c3 c4 c5 c6 c7 c8 c9 c10 hall hsB hB hr1 rf hty
    generalize w = w2 at p0 p1 pb ⊢
    have hp1 := p1.lt
    have k1 : (36 : Int) ≤ (cap : Int) := by omega
    have k2 : ¬ cap = 4 := by omega
    go_upto_region 3 with fail
    refine region_alloc 6 69 (v64 (zer 133)) 10 (by kernel_rfl) (by kernel_rfl) (by rfl) (by kernel_rfl) ?hal ?hh
    case hal =>
      intro a w o ho
      cases ho
      kernel_rfl
    case hh =>
      apply Exists.intro
      refine ⟨fun ι _ W hb hc => ?_, fun gA w3 hgA hbel3 hrow => ?_⟩
      · have t0 : ∀ i, Row (W i) w0.heap.size 22 (v8 nm) := fun i => p0.below (hb i) p0.lt
        have tB : ∀ i, Below w0.heap.size w0 (W i) := fun i => pb.trans ((hb i).mono pb.size)
        simp only [List.take_succ_cons, List.take_zero]
        refine q_load_row 22 (.tmp 4) (by rfl) (by rfl) (w0.heap.size) (by rfl) 22 _ _ t0 Tryd.underlying22 rfl (name_info hn) ?_
        simp only [Act.put, List.setIfInBounds_toArray, List.set_cons_succ, List.set_cons_zero]
        go_big_quiet_step (fail)
        go_big_quiet_step (fail)
        go_big_quiet_step (fail)
        go_big_quiet_step (fail)
        go_big_quiet_step ((go_at_call 42; exact (hdg (cap - 4) _ (Bytes.drop (hby.below (tB _)) 4 |>.take 32) (hmb.below (tB _))).mono (fun e w' ⟨he, hw⟩ => ⟨he, hc _ _ hw⟩)))
        exact wpQuiet_nil rfl
      · simp only [List.drop_succ_cons, List.drop_zero, Act.put, List.setIfInBounds_toArray, List.set_cons_succ, List.set_cons_zero]
        have hi69 : (Tryd.prog.info? 69).map (·.size) = some (v64 DG).size := by rw [v64_size, hDl]; kernel_rfl
        refine store_row0 69 (.tmp 10) (.tmp 33) (by rfl) (by rfl) (by rfl) gA (v64 DG) (by rfl) (by rfl) 69 _ hrow hi69 (by rw [v64_size, v64_size, hDl, zer_len]) (v64_one _) ?_
        have hs3 := hbel3.size
        have x0 := (p0.below hbel3 p0.lt).setRowOther (g := gA) (by omega) (v64 DG)
        have x1 := (p1.below hbel3 p1.lt).setRowOther (g := gA) (by omega) (v64 DG)
        have x3 := hrow.setRow (v64 DG)
        have xb := below_setRow (g := gA) (pb.trans (hbel3.mono pb.size)) (by have := pb.size; omega) (v64 DG)
        have hgA' : w0.heap.size + 1 < gA := by omega
        generalize w3.setRow gA (v64 DG) = w6 at x0 x1 x3 xb ⊢
        clear p0 p1 pb hbel3 hrow hp1 hs3 hgA hdg k1 k2
        have hx3 := x3.lt
        obtain ⟨B4, hB4⟩ : ∃ B4, B4 = w6.heap.size := ⟨_, rfl⟩
        have hgB : gA < B4 := by omega
        go_wp2_with (first | (refine wpList_load_row (by rfl) 22 (.tmp 4) (by rfl) w0.heap.size (by rfl) 22 (v8 nm) (0, 0) _ x0 Tryd.underlying22 rfl (name_info hn) ?_) | (go_at_call 33; (with_reducible refine Calls.mono (rhead_any nm q _ hn) ?_); rintro e w7 ⟨sp7, cap7, rfl, o7, b7⟩; rw [← hB4] at o7 b7; have hs7 := b7.size; rw [← hB4] at hs7) | (at_builtin; (refine append8g (.tmp 36) (.tmp 37) 28 5 (by rfl) (by rfl) B4 Tryd.underlying28 info5 (.slice sp7 20 cap7) (nm ++ n4 q) (by rfl) ?ho (some ⟨w7.heap.size, 0, none⟩) 2 2 [128, 128] (by rfl) rfl ?hnil ?hby ?hlen ?hB ?_; (case ho => exact (o7.alloc _)); (case hnil => exact (fun h => by cases h)); (case hby => exact (bytes_lit w7 [128, 128])); (case hlen => first | omega | (simp; omega) | simp); (case hB => first | omega | (simp; omega) | simp); rw [hL22]; intro sp8 cap8 w8 o8 b8 _g8; have hs8 := b8.size; have c8 : Below B4 w6 w8 := (b7.alloc (by omega) _).trans b8; have hsB8 : B4 ≤ w8.heap.size := (by have := c8.size; omega))))
        have q0 := x0.below c8 (by omega)
        have q1 := x1.below c8 (by omega)
        have q3 := x3.below c8 (by omega)
        have qb := xb.trans (c8.mono (by have := xb.size; omega))
        clear x0 x1 x3 xb o7 b7 b8 _g8 hs7 hs8 c8 hx3 hB4
        generalize nm ++ n4 q ++ [128, 128] = X0 at *
        go_loopw [11, 12] (fun bv v wr => ∃ (k : Nat) (spk : Option Addr) (capk : Nat), k ≤ 133 ∧ bv = .slice spk (22 + 32 * k) capk ∧ v = .int .i64 (k : Int) ∧ Own8 wr B4 5 (.slice spk (22 + 32 * k) capk) (X0 ++ C k) ∧ Row wr w0.heap.size 22 (v8 nm) ∧ Row wr (w0.heap.size + 1) 24 (v8 (zer 32)) ∧ Row wr gA 69 (v64 DG) ∧ Below w0.heap.size w0 wr ∧ B4 ≤ wr.heap.size) (fun _ v _ => 133 - (intOf v).toNat)
        case atStart => exact ⟨0, sp8, cap8, by omega, rfl, rfl, by simpa [hC0] using o8, q0, q1, q3, qb, hsB8⟩
        case round =>
          clear q0 q1 q3 qb o8 hsB8
          obtain ⟨k, spk, capk, hk, rfl, rfl, ok, z0, z1, z3, zb, hsz⟩ := hrel
          by_cases hlt : k < 133
          · have hCl := hcl'.out k
            have hYk := hYl k
            have hXk : (X0 ++ C k).length = 22 + 32 * k := by rw [List.length_append, hL22, hCl]
            have hXk1 : (X0 ++ C k ++ Y k).length = 22 + 32 * (k + 1) := by rw [List.length_append, hXk, hYk]; omega
            have hnx : Hid (X0 ++ C k ++ Y k = X0 ++ C (k + 1)) := by show _ = _; rw [hCs'.out k, List.append_assoc]
            have hDk := hDat k hlt
            have hwk := hw k hlt
            have hZl := hcutl k hlt
            have hZat := hcutat k hlt
            generalize CU k = Z at *
            have s0 := z0.alloc (.cells (v8 (zer 32)) 24)
            have s1 := z1.alloc (.cells (v8 (zer 32)) 24)
            have s3 := z3.alloc (.cells (v8 (zer 32)) 24)
            have s4 := Row.new wr 24 (v8 (zer 32))
            have so := ok.alloc (.cells (v8 (zer 32)) 24)
            have sb := zb.alloc zb.size (.cells (v8 (zer 32)) 24)
            have hss : B4 ≤ (wr.alloc (.cells (v8 (zer 32)) 24)).heap.size := by simp; omega
            obtain ⟨gz, hgz⟩ : ∃ gz, gz = wr.heap.size := ⟨_, rfl⟩
            have hgzB : B4 ≤ gz := by omega
            go_upto_region 9 with fail
            rw [← hgz] at s4 ⊢
            generalize wr.alloc (.cells (v8 (zer 32)) 24) = wz at s0 s1 s3 s4 so sb hss ⊢
            clear z0 z1 z3 zb ok hsz hgz
            go_wp2
            go_loopw [14] (fun v wi => ∃ j : Nat, j ≤ 32 ∧ v = .int .i64 (j : Int) ∧ Own8 wi B4 5 (.slice spk (22 + 32 * k) capk) (X0 ++ C k) ∧ Row wi w0.heap.size 22 (v8 nm) ∧ Row wi (w0.heap.size + 1) 24 (v8 (zer 32)) ∧ Row wi gA 69 (v64 DG) ∧ Row wi gz 24 (v8 (Z.take j ++ List.replicate (32 - j) 0)) ∧ Below w0.heap.size w0 wi ∧ B4 ≤ wi.heap.size) (fun v _ => 32 - (intOf v).toNat)
            case atStart => exact ⟨0, by omega, rfl, so, s0, s1, s3, by simpa [zer] using s4, sb, hss⟩
            case round =>
              clear s0 s1 s3 s4 so sb hss
              obtain ⟨j, hj, rfl, io, i0, i1, i3, i4, ib, hsi⟩ := hrel
              by_cases hjl : j < 32
              · have e1 := hZat j hjl
                obtain ⟨b', o', ee, hcc⟩ := (hby.below ib) (by rw [hsl]; omega)
                injection ee with ee
                injection ee with ee1 ee2
                subst ee1; subst ee2
                have hcs := hcc (36 + 32 * k + j) (by rw [hsl]; omega)
                have hAl : (Z.take j ++ List.replicate (32 - j) 0).length = 32 := by rw [List.length_append, List.length_take, hZl]; simp; omega
                have hnx2 : Hid ((Z.take j ++ List.replicate (32 - j) 0).set j (gi Z j) = Z.take (j + 1) ++ List.replicate (32 - (j + 1)) 0) := by
                  have h1 := set_end (Z.take j) (32 - j) (gi Z j) (by omega)
                  have h2 : (Z.take j).length = j := by rw [List.length_take, hZl]; omega
                  rw [h2] at h1
                  have h3 : Z.take (j + 1) = Z.take j ++ [gi Z j] := by rw [List.take_succ_eq_append_getElem (by omega)]; simp [gi, show j < Z.length by omega]
                  show _ = _
                  rw [h1, h3, show 32 - j - 1 = 32 - (j + 1) by omega]
                have c1 := i4.cell8 (j := j) (by rw [hAl]; omega)
                have f1 := i4.frozen (j := j)
                rw [e1] at hnx2
                clear e1 hcc
                go_wp2
                go_roundw
                case rel => exact ⟨j + 1, by omega, by go_num, io.setOther (var_ne i4 io (by decide)) _, i0.setOther (by show w0.heap.size ≠ gz; omega) _, i1.setOther (by show w0.heap.size + 1 ≠ gz; omega) _, i3.setOther (by show gA ≠ gz; omega) _, by rw [← hnx2.out]; exact i4.set8 j _, ib.setCell (by show w0.heap.size ≤ gz; omega) _, by simpa using hsi⟩
                case measure => simp [intOf]; omega
              · obtain rfl : j = 32 := by omega
                have e : Z.take 32 ++ List.replicate (32 - 32) 0 = Z := by rw [List.take_of_length_le (by omega)]; simp
                rw [e] at i4
                clear e hZat hjl hj
                go_upto_region 13 with fail
                refine region_alloc 8 24 (v8 (zer 32)) 15 (by kernel_rfl) (by kernel_rfl) (by rfl) (by kernel_rfl) ?hal2 ?hh2
                case hal2 =>
                  intro a w o ho
                  cases ho
                  kernel_rfl
                case hh2 =>
                  apply Exists.intro
                  refine ⟨fun ι _ W hb hc => ?_, fun b2 w9 hb2 hbel2 hrow => ?_⟩
                  · have t0 : ∀ i, Row (W i) w0.heap.size 22 (v8 nm) := fun i => i0.below (hb i) i0.lt
                    have t1 : ∀ i, Row (W i) gz 24 (v8 Z) := fun i => i4.below (hb i) i4.lt
                    have t3 : ∀ i, (W i).cell? ⟨gA, k, none⟩ = some (.int .i64 (D k)) := fun i => by
                      rw [← hDk]; exact (i3.below (hb i) i3.lt).cell64 (by omega)
                    simp only [List.take_succ_cons, List.take_zero]
                    refine q_load_row 22 (.tmp 4) (by rfl) (by rfl) (w0.heap.size) (by rfl) 22 _ _ t0 Tryd.underlying22 rfl (name_info hn) ?_
                    simp only [Act.put, List.setIfInBounds_toArray, List.set_cons_succ, List.set_cons_zero]
                    go_big_quiet_step (fail)
                    go_big_quiet_step (fail)
                    go_big_quiet_step (fail)
                    go_big_quiet_step (fail)
                    go_big_quiet_step (fail)
                    refine q_load_row 24 (.tmp 13) (by rfl) (by rfl) gz (by rfl) 24 _ _ t1 Tryd.underlying24 rfl (id_info hZl) ?_
                    simp only [Act.put, List.setIfInBounds_toArray, List.set_cons_succ, List.set_cons_zero]
                    go_big_quiet_step ((go_at_call 34; exact (hwk _).mono (fun e w' ⟨he, hw⟩ => ⟨he, hc _ _ hw⟩)))
                    exact wpQuiet_nil rfl
                  · simp only [List.drop_succ_cons, List.drop_zero, Act.put, List.setIfInBounds_toArray, List.set_cons_succ, List.set_cons_zero]
                    refine store_row0 24 (.tmp 15) (.tmp 64) (by rfl) (by rfl) (by rfl) b2 (v8 (Y k)) (by rfl) (by rfl) 24 _ hrow (id_info hYk) (by rw [v8_size, v8_size, hYk, zer_len]) (v8_one _) ?_
                    have hsw := hbel2.size
                    have y0 := (i0.below hbel2 i0.lt).setRowOther (g := b2) (by have := i0.lt; omega) (v8 (Y k))
                    have y1 := (i1.below hbel2 i1.lt).setRowOther (g := b2) (by have := i1.lt; omega) (v8 (Y k))
                    have y3 := (i3.below hbel2 i3.lt).setRowOther (g := b2) (by have := i3.lt; omega) (v8 (Y k))
                    have y4 := hrow.setRow (v8 (Y k))
                    have y5 := (io.below hbel2 (Nat.le_refl _)).setRowOther (g := b2) (own_lt io hb2) (v8 (Y k))
                    have yb := below_setRow (g := b2) (ib.trans (hbel2.mono ib.size)) (by have := ib.size; omega) (v8 (Y k))
                    have hys : B4 ≤ (w9.setRow b2 (v8 (Y k))).heap.size := by have := (below_setRow (g := b2) (Below.refl b2 w9) (Nat.le_refl _) (v8 (Y k))).size; omega
                    generalize w9.setRow b2 (v8 (Y k)) = w10 at y0 y1 y3 y4 y5 yb hys ⊢
                    clear i0 i1 i3 i4 ib io hbel2 hrow
                    go_wp2_with (at_builtin; (refine append8g (.tmp 65) (.tmp 66) 28 5 (by rfl) (by rfl) B4 Tryd.underlying28 info5 (.slice spk (22 + 32 * k) capk) (X0 ++ C k) (by rfl) ?ho (some ⟨b2, 0, none⟩) 32 32 (Y k) (by rfl) hYk ?hnil ?hby ?hlen ?hB ?_; (case ho => exact y5); (case hnil => exact (fun h => by cases h)); (case hby => exact y4.bytes); (case hlen => first | omega | (simp; omega) | simp); (case hB => first | omega | (simp; omega) | simp); rw [hXk1]; intro sp17 cap17 w17 o17 b17 _g17; have hs17 := b17.size))
                    go_roundw
                    case rel => exact ⟨k + 1, sp17, cap17, by omega, rfl, by go_num, by rw [← hnx.out]; exact o17, y0.below b17 (by omega), y1.below b17 (by omega), y3.below b17 (by omega), yb.trans (b17.mono (by omega)), by omega⟩
                    case measure => simp [intOf]; omega
          · obtain rfl : k = 133 := by omega
            have hCl := hcl'.out 133
            have hpo := htop'.out
            have hXl : (X0 ++ C 133).length = 22 + 32 * 133 := by rw [List.length_append, hL22, hCl]
            have hnil := own_nil ok (by rw [hXl]; omega)
            have hrs := hS.rsum (X0 ++ C 133) spk (22 + 32 * 133) capk wr hXl (by omega) hnil ok.bytes
            rw [← hpo] at hrs
            clear hpo
            generalize C 133 = E at *
            have hz1 := z1.lt
            simp only [show 22 + 32 * 133 = 4278 from rfl] at hrs ⊢
            go_wp2_with (first | (go_at_call 36; (with_reducible refine Calls.mono hrs ?_); rintro e w8 ⟨rfl, hb8⟩) | (refine store_row0 24 (.tmp 8) (.tmp 69) (by rfl) (by rfl) (by rfl) (w0.heap.size + 1) (v8 PK) (by rfl) (by rfl) 24 _ (z1.below hb8 (by omega)) (id_info hSl) (by rw [v8_size, v8_size, hSl, zer_len]) (v8_one _) ?_))
            exact bodyPost_ret (results_row_tmp Tryd.results20 _ _ (w0.heap.size + 1) 24 (v8 PK) _ rfl ((z1.below hb8 (by omega)).setRow _) Tryd.underlying24 rfl (id_info hSl)) rfl ⟨rfl, below_setRow (zb.trans (hb8.mono zb.size)) (by omega) _⟩
end

section
open Go Go.RowKit Go.ChangeShapes Go.WideShapes Go.ChangeAt

set_option maxRecDepth 20000 in
theorem loop_list (bs : ByteArray) : ∀ n i r, bs.size - i = n → ByteArray.toList.loop bs i r = r.reverse ++ bs.data.toList.drop i := by
  intro n
  induction n with
  | zero =>
    intro i r h
    have hi : ¬ i < bs.size := by omega
    rw [ByteArray.toList.loop.eq_def, if_neg hi, List.drop_eq_nil_of_le (by have : bs.data.toList.length = bs.size := rfl
                                                                            omega)]
    simp
  | succ n ih =>
    intro i r h
    have hi : i < bs.size := by omega
    have hl : i < bs.data.toList.length := hi
    rw [ByteArray.toList.loop.eq_def, if_pos hi, ih (i + 1) _ (by omega), List.drop_eq_getElem_cons hl]
    have hl2 : i < bs.data.size := hi
    simp [ByteArray.get!, getElem!_pos bs.data i hl2]
theorem list_of (bs : ByteArray) : bs.toList = bs.data.toList := by
  unfold ByteArray.toList
  rw [loop_list bs _ 0 [] rfl]
  simp
theorem u8_inj {a b : Int} (ha : 0 ≤ a ∧ a < 256) (hb : 0 ≤ b ∧ b < 256) (h : UInt8.ofNat a.toNat = UInt8.ofNat b.toNat) : a = b := by
  have h1 := congrArg UInt8.toNat h
  simp only [UInt8.toNat_ofNat'] at h1
  omega
theorem map_inj8 : ∀ {a b : List Int}, (∀ x ∈ a, 0 ≤ x ∧ x < 256) → (∀ x ∈ b, 0 ≤ x ∧ x < 256) → (a.map fun n => UInt8.ofNat n.toNat) = (b.map fun n => UInt8.ofNat n.toNat) → a = b
  | [], [], _, _, _ => rfl
  | [], _ :: _, _, _, h => by simp at h
  | _ :: _, [], _, _, h => by simp at h
  | x :: a, y :: b, ha, hb, h => by
    simp only [List.map_cons, List.cons.injEq] at h
    rw [u8_inj (ha x (by simp)) (hb y (by simp)) h.1, map_inj8 (fun z hz => ha z (by simp [hz])) (fun z hz => hb z (by simp [hz])) h.2]
theorem str_inj8 {a b : List Int} (ha : ∀ x ∈ a, 0 ≤ x ∧ x < 256) (hb : ∀ x ∈ b, 0 ≤ x ∧ x < 256) (h : a ≠ b) : (!((strOfNums a).toList == (strOfNums b).toList)) = true := by
  simp only [list_of, strOfNums_data, Bool.not_eq_true', beq_eq_false_iff_ne, ne_eq]
  exact fun e => h (map_inj8 ha hb e)

/-- From one signature both ways back answer alike. -/
theorem backs_agree (S : List Int → List Int) (hS : Hash S) (nm sig msg : List Int) (q : Int) (mp sp : Option Addr) (ml mc len cap : Nat) (hn : nm.length = 16) (hml : msg.length = ml) (hmn : mp = none → mc = 0 ∧ ml = 0) (hmm : ml ≤ 1000000) (hsl : sig.length = len) (hcp : len ≤ cap) (h8 : ∀ x ∈ sig.take 4, 0 ≤ x ∧ x < 256) :
    ∃ (PK : List Int) (E : Int), PK.length = 32 ∧
      (∀ wx, Laid wx → Bytes wx mp msg → Bytes wx sp sig → Calls Tryd.prog 18 #[.agg (v8 nm), .int .i64 q, .slice mp ml mc, .slice sp len cap] wx fun e w' => e = .returned (.tuple #[.agg (v8 PK), .int .i64 E]) ∧ Below wx.heap.size wx w') ∧
      (∀ wx, Bytes wx mp msg → Bytes wx sp sig → Calls Tryd.prog 20 #[.agg (v8 nm), .int .i64 q, .slice mp ml mc, .slice sp len cap] wx fun e w' => e = .returned (.tuple #[.agg (v8 PK), .int .i64 E]) ∧ Below wx.heap.size wx w') := by
  by_cases hl : len = 4292
  · subst hl
    by_cases ht : sig.take 4 = n4 2
    · refine ⟨backL S (nm ++ n4 q) msg sig, 0, hS.len _, fun wx hL h1 h2 => ?_, fun wx h1 h2 => ?_⟩
      · exact Back_ok S hS msg nm sig q mp sp ml mc 4292 cap wx hL hn hml (by omega) h1 hsl hcp h2 rfl ht
      · have h2' := h2
        obtain ⟨b, o, rfl, _⟩ := h2 (by omega)
        exact rBack_ok S hS msg nm sig q mp b o ml mc cap wx hn hml hmn hmm h1 hsl hcp h2' ht
    · refine ⟨zer 32, 12, zer_len 32, fun wx hL h1 h2 => ?_, fun wx h1 h2 => ?_⟩
      · exact Back_type nm sig q mp sp ml mc 4292 cap wx hsl h2 rfl ht
      · have h2' := h2
        obtain ⟨b, o, rfl, _⟩ := h2 (by omega)
        refine rBack_type nm sig q mp b o ml mc cap wx hsl hcp h2' (str_inj8 h8 ?_ ht)
        intro x hx
        have : n4 2 = [0, 0, 0, 2] := by decide
        rw [this] at hx
        simp at hx
        omega
  · exact ⟨zer 32, 12, zer_len 32, fun wx _ _ h2 => Back_len nm sig q mp sp ml mc len cap wx hsl h2 hl, fun wx _ _ => rBack_len nm q mp sp ml mc len cap wx hl⟩

set_option maxRecDepth 20000 in
theorem open_bytes8 {H : Type} {enc : TypeId × Value → H} {w : World} {base : Nat} {sp : Nat → Bool} {held : Bool} {r : Reach} {b0 : Nat} {v : Value} {d : DataW H} {p : List MemPlace}
    (hv : Value.okWide Tryd.prog w r b0 28 v) (h : DataW.Trod enc Tryd.prog w base sp held 28 v d p) :
    ∃ (a : Option Addr) (len cap : Nat) (bs : List Int), v = .slice a len cap ∧ bs.length = len ∧ len ≤ cap ∧ cap ≤ maxLen ∧ (a = none → cap = 0 ∧ len = 0) ∧ Bytes w a bs ∧ ∀ x ∈ bs, 0 ≤ x ∧ x < 256 := by
  obtain ⟨a, len, cap, bs, rfl, h1, h2, h3, h4, h5⟩ := open_bytes hv h
  refine ⟨a, len, cap, bs, rfl, h1, h2, h3, h4, h5, ?_⟩
  obtain ⟨fuel, hf⟩ := h
  have c5 : Tryd.prog.cellsOf 5 = 1 := by kernel_rfl
  rcases open_ints Tryd.underlying28 Tryd.underlying5 c5 hf with ⟨hcs, _⟩ | ⟨ad, len', cap', zs, hcs, _, hl, hm, hz, _, hcell, hwf⟩
  · simp only [Value.cells, List.cons.injEq, and_true] at hcs
    injection hcs with e1 e2 e3
    subst e1; subst e2; subst e3
    intro x hx
    rw [List.eq_nil_of_length_eq_zero h1] at hx
    cases hx
  · simp only [Value.cells, List.cons.injEq, and_true] at hcs
    injection hcs with e1 e2 e3
    subst e1; subst e2; subst e3
    have hzl : len ≤ zs.length := by rw [hz]; split <;> omega
    intro x hx
    obtain ⟨j, hj, rfl⟩ := List.mem_iff_getElem.1 hx
    obtain ⟨b, o, e, hc⟩ := h5 (by omega)
    injection e with e
    subst e
    have c1 := hc j hj
    have c2 := hcell j (by omega)
    have e2 : (Addr.add ⟨b, o, none⟩ j) = ⟨b, o + j, none⟩ := by
      by_cases hj0 : j = 0
      · subst hj0; simp [Addr.add]
      · simp [Addr.add, hj0]
    rw [e2, c1] at c2
    injection c2 with c2
    injection c2 with _ c2
    have c3 : bs[j] = zs.getD j 0 := by simpa [gi, hj] using c2
    have hm : zs.getD j 0 ∈ zs := by
      have hj2 : j < zs.length := by omega
      simp [List.getD, hj2]
    have hw := hwf _ hm
    rw [c3]
    generalize zs.getD j 0 = z at hw ⊢
    simp [Lit.wf, IntKind.min, IntKind.max, IntKind.signed, IntKind.bits] at hw
    omega
end

section
open Go Go.RowKit

theorem load_rowG {P : Program} {ops : Array Oper} {rest : List Oper} {o : Oper} {a : Act} {w : World} {Q : Exit → Act → World → Prop} (hgd : Region.wanted o (yielded ops a.tmps) = true) (ty : TypeId) (x : Operand) (ho : o.op = .load ty x)
    (g : Nat) (hx : a.eval x = .pointer (some ⟨g, 0, none⟩)) (t : TypeId) (cs : Array Value) (fr : Nat × Nat) (d : TypeDesc) (hg : w.heap[g]? = some (.cells cs t fr))
    (hu : P.underlying ty = some d) (hd : (match d with | .struct _ | .array _ _ => true | _ => false) = true) (hi : (P.info? ty).map (·.size) = some cs.size)
    (h : wpList P ops Q rest (a.put o.dst (.agg cs)) w) : wpList P ops Q (o :: rest) a w :=
  wpList_step fun _ hK => by rw [if_pos hgd]; exact wp_load_row ty x ho g hx t cs fr d hg hu hd hi (hK _ _ h)
theorem own8_four (w : World) (B : Nat) (hB : B ≤ w.heap.size) : Own8 (w.alloc (.cells (v8 [0, 0, 0, 2]) 5)) B 5 (.slice (some ⟨w.heap.size, 0, none⟩) 4 4) [0, 0, 0, 2] := by
  have := World.ownsRow_lit (base := B) (e := 5) (size := 1) w (v8 [0, 0, 0, 2]) 4 hB (by unfold maxLen; omega) rfl
  exact this
theorem own_cap {w : World} {B : Nat} {e : TypeId} {sp : Option Addr} {n cap : Nat} {l : List Int} (h : Own8 w B e (.slice sp n cap) l) (hp : 0 < l.length) : n ≤ cap := by
  obtain ⟨_, _, _, h1, _⟩ := h.row hp
  exact h1

set_option maxRecDepth 20000 in
set_option maxHeartbeats 1500000 in
theorem backs_early (S : List Int → List Int) (hS : Hash S) (nm seed : List Int) (q at_ by_ how : Int) (mp rp : Option Addr) (ml mc rl rc : Nat) (w0 : World) (hL : Laid w0) (h : 200 < ml ∨ 6000 < rl ∨ at_ < 0 ∨ how < 0) :
    Calls Tryd.prog 5 #[.agg (v8 nm), .int .i64 q, .agg (v8 seed), .slice mp ml mc, .int .i64 at_, .int .u8 by_, .int .i64 how, .slice rp rl rc] w0 fun e w' => e = .returned (.bool true) ∧ Below w0.heap.size w0 w' := by
  have hK : ∀ wx, Laid wx → Calls Tryd.prog 14 #[] wx fun e w' => e = .returned (.bool true) ∧ Below wx.heap.size wx w' := fun wx hl => known5_any S hS wx hl
  go_enter Tryd.func5, Tryd.ntmps5
  go_upto_region 1 with fail
  have b1 : Below w0.heap.size w0 (World.alloc (World.alloc w0 (.cells (v8 nm) 22)) (.cells (v8 seed) 24)) := ((Below.refl _ _).alloc (Nat.le_refl _) _).alloc (by simp) _
  change Code.wp _ _ _ _ ((World.alloc (World.alloc w0 (.cells (v8 nm) 22)) (.cells (v8 seed) 24)))
  generalize (World.alloc (World.alloc w0 (.cells (v8 nm) 22)) (.cells (v8 seed) 24)) = w1 at b1 ⊢
  go_upto_region 3 with (go_at_call 14; (with_reducible refine Calls.mono (hK _ (hL.below b1)) ?_); rintro e w2 ⟨rfl, hb2⟩)
  have hfin : Below w0.heap.size w0 w2 := b1.trans (hb2.mono b1.size)
  by_cases c1 : 200 < ml
  · have d1 : (200 : Int) < (ml : Int) := by omega
    go_wp2
    go_ret
    exact ⟨rfl, hfin⟩
  have d1 : ¬ (200 : Int) < (ml : Int) := by omega
  have k1 : decide ((200 : Int) < (ml : Int)) = false := by simpa using d1
  by_cases c2 : 6000 < rl
  · have d2 : (6000 : Int) < (rl : Int) := by omega
    go_wp2
    go_ret
    exact ⟨rfl, hfin⟩
  have d2 : ¬ (6000 : Int) < (rl : Int) := by omega
  have k2 : decide ((6000 : Int) < (rl : Int)) = false := by simpa using d2
  by_cases c3 : at_ < 0
  · go_wp2
    go_ret
    exact ⟨rfl, hfin⟩
  have k3 : decide (at_ < 0) = false := by simpa using c3
  have c4 : how < 0 := by omega
  go_wp2
  go_ret
  exact ⟨rfl, hfin⟩
end

end Go.Proofs.YtoebnkepeledmaaDoor
