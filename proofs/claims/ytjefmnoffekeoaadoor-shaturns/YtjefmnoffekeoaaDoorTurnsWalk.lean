/- ShaTurns returns true and turns no old memory, for all bytes, every place and every byte. -/
import Derived.Test.YtjefmnoffekeoaaDoorArg
import Derived.Test.YtjefmnoffekeoaaDoorRef
import Derived.Test.YtjefmnoffekeoaaDoorArrEq
import Derived.Test.YtjefmnoffekeoaaDoorKnown
namespace Go.Proofs.YtjefmnoffekeoaaDoor
open Go.RowKit

set_option maxRecDepth 20000 in
set_option maxHeartbeats 1000000 in
theorem turns_early (sp : Option Addr) (len cap : Nat) (n x : Int) (w : World) (hL : Laid w) (h : len = 0 ∨ 1000 < len ∨ x = 0 ∨ n < 0) :
    Calls Tryd.prog 5 #[.slice sp len cap, .int .i64 n, .int .u8 x] w fun e w' => e = .returned (.bool true) ∧ Below w.heap.size w w' := by
  have hk := known_any w hL
  by_cases h1 : (len : Int) = 0
  · go_enter Tryd.func5, Tryd.ntmps5
    go_wp2_with (go_at_call 8; refine Calls.mono hk ?_; rintro e w1 ⟨rfl, hb1⟩)
    go_ret
    exact ⟨rfl, hb1⟩
  · by_cases h2 : (1000 : Int) < (len : Int)
    · go_enter Tryd.func5, Tryd.ntmps5
      go_wp2_with (go_at_call 8; refine Calls.mono hk ?_; rintro e w1 ⟨rfl, hb1⟩)
      go_ret
      exact ⟨rfl, hb1⟩
    · by_cases h3 : x = 0
      · go_enter Tryd.func5, Tryd.ntmps5
        go_wp2_with (go_at_call 8; refine Calls.mono hk ?_; rintro e w1 ⟨rfl, hb1⟩)
        go_ret
        exact ⟨rfl, hb1⟩
      · have h4 : n < 0 := by omega
        go_enter Tryd.func5, Tryd.ntmps5
        go_wp2_with (go_at_call 8; refine Calls.mono hk ?_; rintro e w1 ⟨rfl, hb1⟩)
        go_ret
        exact ⟨rfl, hb1⟩

set_option maxRecDepth 20000 in
set_option maxHeartbeats 1000000 in
theorem turns_any (bs : List Int) (sp : Option Addr) (len cap n : Nat) (x : Int) (w : World) (hL : Laid w) (hlen : bs.length = len) (hcap : len ≤ cap) (hnil : sp = none → cap = 0 ∧ len = 0) (hby : Bytes w sp bs)
    (hp : 0 < len) (hm : len ≤ 1000) (hx : x ≠ 0) :
    Calls Tryd.prog 5 #[.slice sp len cap, .int .i64 n, .int .u8 x] w fun e w' => e = .returned (.bool true) ∧ Below w.heap.size w w' := by
  have hk := known_any w hL
  have h1 : ¬ (len : Int) = 0 := by omega
  have h2 : ¬ (1000 : Int) < (len : Int) := by omega
  have h4 : ¬ (n : Int) < 0 := by omega
  have q1 : ((len : Int) == 0) = false := by simpa using h1
  have q2 : decide ((1000 : Int) < (len : Int)) = false := by simpa using h2
  have q3 : (x == 0) = false := by simpa using hx
  have q4 : decide ((n : Int) < 0) = false := by simp
  go_enter Tryd.func5, Tryd.ntmps5
  go_upto_region 6 with (first | (go_at_call 8; refine Calls.mono hk ?_; rintro e w1 ⟨rfl, hb1⟩; have o2 := own8_nil (w1.alloc (.cells #[] 5)) w1.heap.size w1.heap.size (Nat.le_refl _) (Row.new w1 5 #[]); have hby2 : Bytes (w1.alloc (.cells #[] 5)) sp bs := (hby.below hb1).below ((Below.refl _ _).alloc (Nat.le_refl _) _)) | (at_builtin; go_must (refine append8 (.tmp 26) (.tmp 27) 22 5 (by rfl) (by rfl) w1.heap.size Tryd.underlying22 info5 _ [] (by rfl) ?ho sp len cap bs (by rfl) hlen hnil hby2 (by simp; omega) (by simp) ?_; (case ho => exact o2); intro sp3 cap3 w3 o3 b3; simp only [List.nil_append] at o3 ⊢; simp only [hlen] at o3 ⊢)))
  have hs1 := hb1.size
  have hby1 : Bytes w1 sp bs := hby.below hb1
  have c3 : Below w1.heap.size w1 w3 := ((Below.refl _ _).alloc (Nat.le_refl _) _).trans b3
  obtain ⟨g, cur, rfl, hcc, hg, r3, hc⟩ := o3.row (by omega)
  clear o2 o3 b3 hby2
  obtain ⟨j, hj⟩ : ∃ j, j = n % len := ⟨_, rfl⟩
  have hjl : j < len := by rw [hj]; exact Nat.mod_lt _ hp
  have e1 : Int.tmod (n : Int) (len : Int) = (j : Int) := by rw [hj]; rfl
  clear hj
  have hv : w3.cell? ⟨g, j, none⟩ = some (.int .u8 (gi bs j)) := hc j (by omega)
  have hf : w3.frozen? ⟨g, j, none⟩ = false := r3.frozen
  have j0 : (0 : Int) ≤ (j : Int) := by omega
  have j1 : (j : Int) < (len : Int) := by omega
  go_upto_region 7 with (fail)
  obtain ⟨y, hy⟩ : ∃ y, y = bits .xor .u8 (gi bs j) x := ⟨_, rfl⟩
  rw [← hy]
  have hB4 := bytes_set j y (by omega) hc
  have c4 : Below w1.heap.size w1 (w3.setCell ⟨g, j, none⟩ (.int .u8 y)) := c3.setCell hg _
  change Code.wp _ _ _ _ (w3.setCell ⟨g, j, none⟩ (.int .u8 y))
  generalize w3.setCell ⟨g, j, none⟩ (.int .u8 y) = w4 at hB4 c4 ⊢
  obtain ⟨Y, hY⟩ : ∃ Y, Y = bs.set j y := ⟨_, rfl⟩
  rw [← hY] at hB4
  have hYl : Y.length = len := by rw [hY, List.length_set]; exact hlen
  clear hY hy hv hf hc r3 c3 e1 j0 j1 hk
  have hL4 : Laid w4 := (hL.below hb1).below c4
  have hby4 : Bytes w4 sp bs := hby1.below c4
  have hs4 := c4.size
  have hrY := ref_any Y (some ⟨g, 0, none⟩) len cap3 w4 hYl (by omega) (fun h => by cases h) hB4
  have hrb : ∀ wx, Below w4.heap.size w4 wx → Calls Tryd.prog 10 #[.slice sp len cap] wx fun e w' => e = .returned (.agg (v8 (shaS bs))) ∧ Below wx.heap.size wx w' := fun wx hbx =>
    ref_any bs sp len cap wx hlen (by omega) hnil (hby4.below hbx)
  have hsY : ∀ wx, Below w4.heap.size w4 wx → Calls Tryd.prog 9 #[.slice (some ⟨g, 0, none⟩) len cap3] wx fun e w' => e = .returned (.agg (v8 (shaS Y))) ∧ Below wx.heap.size wx w' := fun wx hbx =>
    sum_any Y _ len cap3 wx hYl hcc (by omega) (hL4.below hbx) (hB4.below hbx)
  have hsb : ∀ wx, Below w4.heap.size w4 wx → Calls Tryd.prog 9 #[.slice sp len cap] wx fun e w' => e = .returned (.agg (v8 (shaS bs))) ∧ Below wx.heap.size wx w' := fun wx hbx =>
    sum_any bs _ len cap wx hlen hcap (by omega) (hL4.below hbx) (hby4.below hbx)
  have heq : ∀ wx, (binOp .eql 25 (.agg (v8 (shaS Y))) (.agg (v8 (shaS bs)))).run Tryd.prog wx = .ok (.bool (decide (shaS Y = shaS bs))) wx := fun wx =>
    run_eql_bytes wx 25 5 32 _ _ Tryd.underlying25 Tryd.underlying5 (by kernel_rfl) (shaS_length _) (shaS_length _)
  have hne : ∀ wx, (binOp .neq 25 (.agg (v8 (shaS Y))) (.agg (v8 (shaS bs)))).run Tryd.prog wx = .ok (.bool (!decide (shaS Y = shaS bs))) wx := fun wx =>
    run_neq_bytes wx 25 5 32 _ _ Tryd.underlying25 Tryd.underlying5 (by kernel_rfl) (shaS_length _) (shaS_length _)
  by_cases hE : shaS Y = shaS bs
  · have hd : decide (shaS Y = shaS bs) = true := by simpa using hE
    simp only [hd] at heq
    clear hne hsY hsb hd hE
    go_wp2_with (first | (go_at_call 10; with_reducible refine Calls.mono hrY ?_; rintro e w5 ⟨rfl, hb5⟩) | (go_at_call 10; with_reducible refine Calls.mono (hrb _ hb5) ?_; rintro e w6 ⟨rfl, hb6⟩))
    go_ret
    exact ⟨rfl, ((hb1.trans (c4.mono hs1)).trans (hb5.mono (by omega))).trans (hb6.mono (by have := hb5.size; omega))⟩
  · have hd : decide (shaS Y = shaS bs) = false := by simpa using hE
    simp only [hd, Bool.not_false] at heq hne
    clear hd hE
    go_wp2_with (first | (go_at_call 10; with_reducible refine Calls.mono hrY ?_; rintro e w5 ⟨rfl, hb5⟩) | (go_at_call 10; with_reducible refine Calls.mono (hrb _ hb5) ?_; rintro e w6 ⟨rfl, hb6⟩; have c6 := hb5.trans (hb6.mono hb5.size)) | (go_at_call 9; with_reducible refine Calls.mono (hsY _ c6) ?_; rintro e w7 ⟨rfl, hb7⟩; have c7 := c6.trans (hb7.mono c6.size)) | (go_at_call 9; with_reducible refine Calls.mono (hsb _ c7) ?_; rintro e w8 ⟨rfl, hb8⟩; have c8 := c7.trans (hb8.mono c7.size)))
    go_ret
    exact ⟨rfl, (hb1.trans (c4.mono hs1)).trans (c8.mono (by omega))⟩
end Go.Proofs.YtjefmnoffekeoaaDoor
