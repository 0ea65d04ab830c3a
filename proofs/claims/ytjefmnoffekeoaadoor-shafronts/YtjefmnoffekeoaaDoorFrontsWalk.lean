/- ShaFronts returns true and turns no old memory, for all bytes and every pair of numbers. -/
import Derived.Test.YtjefmnoffekeoaaDoorSumsWalk
import Derived.Test.YtjefmnoffekeoaaDoorZeros
namespace Go.Proofs.YtjefmnoffekeoaaDoor
open Go.RowKit

set_option maxRecDepth 20000 in
set_option maxHeartbeats 1000000 in
theorem fronts_early (sp : Option Addr) (len cap : Nat) (n m : Int) (w : World) (hL : Laid w) (h : len = 0 ∨ 300 < len ∨ n < 0 ∨ m < 0) :
    Calls Tryd.prog 7 #[.slice sp len cap, .int .i64 n, .int .i64 m] w fun e w' => e = .returned (.bool true) ∧ Below w.heap.size w w' := by
  have hk := known_any w hL
  by_cases h1 : (len : Int) = 0
  · go_enter Tryd.func7, Tryd.ntmps7
    go_wp2_with (go_at_call 8; refine Calls.mono hk ?_; rintro e w1 ⟨rfl, hb1⟩)
    go_ret
    exact ⟨rfl, hb1⟩
  · by_cases h2 : (300 : Int) < (len : Int)
    · go_enter Tryd.func7, Tryd.ntmps7
      go_wp2_with (go_at_call 8; refine Calls.mono hk ?_; rintro e w1 ⟨rfl, hb1⟩)
      go_ret
      exact ⟨rfl, hb1⟩
    · by_cases h3 : n < 0
      · go_enter Tryd.func7, Tryd.ntmps7
        go_wp2_with (go_at_call 8; refine Calls.mono hk ?_; rintro e w1 ⟨rfl, hb1⟩)
        go_ret
        exact ⟨rfl, hb1⟩
      · have h4 : m < 0 := by omega
        go_enter Tryd.func7, Tryd.ntmps7
        go_wp2_with (go_at_call 8; refine Calls.mono hk ?_; rintro e w1 ⟨rfl, hb1⟩)
        go_ret
        exact ⟨rfl, hb1⟩

set_option maxRecDepth 20000 in
set_option maxHeartbeats 2000000 in
theorem fronts_any (bs : List Int) (bb ob len cap n m : Nat) (w : World) (hL : Laid w) (hlen : bs.length = len) (hcap : len ≤ cap) (hby : Bytes w (some ⟨bb, ob, none⟩) bs) (hp : 0 < len) (hm : len ≤ 300) :
    Calls Tryd.prog 7 #[.slice (some ⟨bb, ob, none⟩) len cap, .int .i64 n, .int .i64 m] w fun e w' => e = .returned (.bool true) ∧ Below w.heap.size w w' := by
  have hkn := known_any w hL
  have h1 : ¬ (len : Int) = 0 := by omega
  have h2 : ¬ (300 : Int) < (len : Int) := by omega
  have h3 : ¬ (n : Int) < 0 := by omega
  have h4 : ¬ (m : Int) < 0 := by omega
  have q1 : ((len : Int) == 0) = false := by simpa using h1
  have q2 : decide ((300 : Int) < (len : Int)) = false := by simpa using h2
  have q3 : decide ((n : Int) < 0) = false := by simp
  have q4 : decide ((m : Int) < 0) = false := by simp
  have i25 : (Tryd.prog.info? 25).map (·.size) = some (v8 (shaS bs)).size := by rw [v8_size, shaS_length]; kernel_rfl
  have hold : (v8 (List.replicate 32 0)).size = (v8 (shaS bs)).size := by rw [v8_size, v8_size, shaS_length]; simp
  have hsum : ∀ wx, Below w.heap.size w wx → Calls Tryd.prog 9 #[.slice (some ⟨bb, ob, none⟩) len cap] wx fun e w' => e = .returned (.agg (v8 (shaS bs))) ∧ Below wx.heap.size wx w' := fun wx hbx =>
    sum_any bs _ len cap wx hlen hcap (by omega) (hL.below hbx) (hby.below hbx)
  go_enter Tryd.func7, Tryd.ntmps7
  go_upto_region 6 with (first | (go_at_call 8; refine Calls.mono hkn ?_; rintro e w1 ⟨rfl, hb1⟩) | (go_at_call 9; with_reducible refine Calls.mono (hsum _ hb1) ?_; rintro e w2 ⟨rfl, hb2⟩) | (refine store_row0 25 (.tmp 7) (.tmp 31) (by rfl) (by rfl) (by rfl) w2.heap.size (v8 (shaS bs)) (by rfl) (by rfl) 25 (v8 (List.replicate 32 0)) (Row.new w2 25 _) i25 hold (v8_one _) ?_))
  have d2 : Below w.heap.size w w2 := hb1.trans (hb2.mono hb1.size)
  have rX : Row ((w2.alloc (.cells (v8 (List.replicate 32 0)) 25)).setRow w2.heap.size (v8 (shaS bs))) w2.heap.size 25 (v8 (shaS bs)) := (Row.new w2 25 _).setRow _
  have d3 : Below w.heap.size w ((w2.alloc (.cells (v8 (List.replicate 32 0)) 25)).setRow w2.heap.size (v8 (shaS bs))) := below_setRow (d2.alloc d2.size _) d2.size _
  change Code.wp _ _ _ _ ((w2.alloc (.cells (v8 (List.replicate 32 0)) 25)).setRow w2.heap.size (v8 (shaS bs)))
  obtain ⟨gx, hgx⟩ : ∃ gx, gx = w2.heap.size := ⟨_, rfl⟩
  rw [← hgx] at rX d3 ⊢
  generalize (w2.alloc (.cells (v8 (List.replicate 32 0)) 25)).setRow gx (v8 (shaS bs)) = w3 at rX d3 ⊢
  clear hgx hkn hold hsum d2 hb2 hb1
  obtain ⟨k, hk⟩ : ∃ k, k = n % len := ⟨_, rfl⟩
  have hkl : k < len := by rw [hk]; exact Nat.mod_lt _ hp
  have e1 : Int.tmod (n : Int) (len : Int) = (k : Int) := by rw [hk]; rfl
  clear hk
  obtain ⟨r, hr⟩ : ∃ r, r = m % 70 := ⟨_, rfl⟩
  have hrl : r < 70 := by omega
  have e2 : Int.tmod (m : Int) 70 = (r : Int) := by rw [hr]; rfl
  clear hr
  obtain ⟨kz, hkz⟩ : ∃ kz, kz = 1 + r := ⟨_, rfl⟩
  have e3 : (1 : Int) + (r : Int) = (kz : Int) := by omega
  have q5 : IntKind.i64.wrap (kz : Int) = (kz : Int) := by rw [IntKind.wrap_i64]; omega
  have hkz1 : 0 < kz := by omega
  have hkz2 : kz ≤ 70 := by omega
  clear hkz
  have o4 := own8_nil (w3.alloc (.cells #[] 5)) w3.heap.size w3.heap.size (Nat.le_refl _) (Row.new w3 5 #[])
  have hby4 : Bytes (w3.alloc (.cells #[] 5)) (some ⟨bb, ob, none⟩) bs := (hby.below d3).below ((Below.refl _ _).alloc (Nat.le_refl _) _)
  go_upto_region 8 with (first | (at_builtin; (refine append8 (.tmp 36) (.tmp 37) 22 5 (by rfl) (by rfl) w3.heap.size Tryd.underlying22 info5 _ [] (by rfl) ?ho (some ⟨bb, ob, none⟩) len cap bs (by rfl) hlen (fun h => by cases h) hby4 (by simp; omega) (by simp) ?_; (case ho => exact o4); intro sp5 cap5 w5 o5 b5; simp only [List.nil_append] at o5 ⊢; simp only [hlen] at o5 ⊢; have c5 : Below w3.heap.size w3 w5 := ((Below.refl _ _).alloc (Nat.le_refl _) _).trans b5; have hs5 := c5.size)) | (at_builtin; (refine append8z (.tmp 38) (.tmp 41) 22 3 5 (by rfl) (by rfl) w3.heap.size Tryd.underlying22 Tryd.underlying3 info5 bs sp5 len cap5 (by rfl) o5 (by omega) kz (by rfl) hkz1 (by omega) hs5 ?_; intro sp6 cap6 w6 o6 b6; simp only [List.length_append, List.length_replicate, hlen] at o6 ⊢)))
  have c6 : Below w3.heap.size w3 w6 := c5.trans b6
  have d6 : Below w.heap.size w w6 := d3.trans (c6.mono d3.size)
  obtain ⟨Z, hZ⟩ : ∃ Z, Z = bs ++ List.replicate kz (0 : Int) := ⟨_, rfl⟩
  rw [← hZ] at o6
  have hZl : Z.length = len + kz := by rw [hZ]; simp [hlen]
  obtain ⟨gz, cur, rfl, hcz, _, _, _⟩ := o6.row (by omega)
  have hZ6 : Bytes w6 (some ⟨gz, 0, none⟩) Z := o6.bytes
  have rX6 : Row w6 gx 25 (v8 (shaS bs)) := rX.below c6 rX.lt
  clear o4 o5 o6 b5 b6 hby4 hs5 c5 c6 rX hZ e1 e2 e3 q5 d3
  have k0 : (0 : Int) ≤ (k : Int) := by omega
  have k1 : (k : Int) ≤ (cap : Int) := by omega
  have k2 : (k : Int) ≤ (len : Int) := by omega
  have k3 : (len : Int) ≤ (cap : Int) := by omega
  obtain ⟨pA, hpA⟩ : ∃ pA, pA = decide (shaS (bs.take k) = shaS bs) := ⟨_, rfl⟩
  obtain ⟨pZ, hpZ⟩ : ∃ pZ, pZ = decide (shaS Z = shaS bs) := ⟨_, rfl⟩
  have hA : ∀ wx, (binOp .eql 25 (.agg (v8 (shaS (bs.take k)))) (.agg (v8 (shaS bs)))).run Tryd.prog wx = .ok (.bool pA) wx := fun wx => by
    rw [hpA]; exact run_eql_bytes wx 25 5 32 _ _ Tryd.underlying25 Tryd.underlying5 (by kernel_rfl) (shaS_length _) (shaS_length _)
  have hA' : ∀ wx, (binOp .neq 25 (.agg (v8 (shaS (bs.take k)))) (.agg (v8 (shaS bs)))).run Tryd.prog wx = .ok (.bool (!pA)) wx := fun wx => by
    rw [hpA]; exact run_neq_bytes wx 25 5 32 _ _ Tryd.underlying25 Tryd.underlying5 (by kernel_rfl) (shaS_length _) (shaS_length _)
  have hB : ∀ wx, (binOp .eql 25 (.agg (v8 (shaS Z))) (.agg (v8 (shaS bs)))).run Tryd.prog wx = .ok (.bool pZ) wx := fun wx => by
    rw [hpZ]; exact run_eql_bytes wx 25 5 32 _ _ Tryd.underlying25 Tryd.underlying5 (by kernel_rfl) (shaS_length _) (shaS_length _)
  have hB' : ∀ wx, (binOp .neq 25 (.agg (v8 (shaS Z))) (.agg (v8 (shaS bs)))).run Tryd.prog wx = .ok (.bool (!pZ)) wx := fun wx => by
    rw [hpZ]; exact run_neq_bytes wx 25 5 32 _ _ Tryd.underlying25 Tryd.underlying5 (by kernel_rfl) (shaS_length _) (shaS_length _)
  have hE : ∀ wx, (binOp .eql 25 (.agg (v8 (shaS bs))) (.agg (v8 (shaS bs)))).run Tryd.prog wx = .ok (.bool true) wx := fun wx => by
    rw [run_eql_bytes wx 25 5 32 _ _ Tryd.underlying25 Tryd.underlying5 (by kernel_rfl) (shaS_length _) (shaS_length _)]; simp
  clear hpA hpZ
  have htk : (bs.take k).length = k := by simp; omega
  have hdr : (bs.drop k).length = len - k := by simp [hlen]
  refine region_tail 13 (by kernel_rfl) (by kernel_rfl) (by kernel_rfl) ?_
  apply Exists.intro
  refine ⟨fun ι _ W hb hc => ?_, fun w7 hb7 => ?_⟩
  · have hd : ∀ i, Below w.heap.size w (W i) := fun i => d6.trans ((hb i).mono d6.size)
    have j1 : ∀ i, Calls Tryd.prog 10 #[.slice (some ⟨bb, ob, none⟩) k cap] (W i) fun e w' => e = .returned (.agg (v8 (shaS (bs.take k)))) ∧ Below (W i).heap.size (W i) w' := fun i =>
      ref_any (bs.take k) _ k cap (W i) htk (by omega) (fun h => by cases h) ((hby.take k).below (hd i))
    have j2 : ∀ i, Calls Tryd.prog 10 #[.slice (some ⟨bb, ob, none⟩) len cap] (W i) fun e w' => e = .returned (.agg (v8 (shaS bs))) ∧ Below (W i).heap.size (W i) w' := fun i =>
      ref_any bs _ len cap (W i) hlen (by omega) (fun h => by cases h) (hby.below (hd i))
    have j3 : ∀ i, Calls Tryd.prog 10 #[.slice (some ⟨gz, 0, none⟩) (len + kz) cap6] (W i) fun e w' => e = .returned (.agg (v8 (shaS Z))) ∧ Below (W i).heap.size (W i) w' := fun i =>
      ref_any Z _ (len + kz) cap6 (W i) hZl (by omega) (fun h => by cases h) (hZ6.below (hb i))
    simp only [List.take_succ_cons, List.take_zero]
    repeat (go_big_quiet_step (first | (go_at_call 10; with_reducible exact (j1 _).mono (fun e w' ⟨he, hw⟩ => ⟨he, hc _ _ hw⟩)) | (go_at_call 10; with_reducible exact (j2 _).mono (fun e w' ⟨he, hw⟩ => ⟨he, hc _ _ hw⟩)) | (go_at_call 10; with_reducible exact (j3 _).mono (fun e w' ⟨he, hw⟩ => ⟨he, hc _ _ hw⟩))))
    exact wpQuiet_nil rfl
  · simp only [List.drop_succ_cons, List.drop_zero]
    go_wp2
    have d7 : Below w.heap.size w w7 := d6.trans (hb7.mono d6.size)
    have hZ7 : Bytes w7 (some ⟨gz, 0, none⟩) Z := hZ6.below hb7
    have rX7 : Row w7 gx 25 (v8 (shaS bs)) := rX6.below hb7 rX6.lt
    clear hb7 hZ6 rX6 d6 hA hB
    have main : Hid (∀ (ι : Type) (W : ι → World), (∀ i, Below w7.heap.size w7 (W i)) → (∀ i w', Below (W i).heap.size (W i) w' → ∃ j, w' = W j) →
        (∀ i, Row (W i) gx 25 (v8 (shaS bs))) ∧
        (∀ i, Calls Tryd.prog 9 #[.slice (some ⟨bb, ob, none⟩) k cap] (W i) fun e w' => e = .returned (.agg (v8 (shaS (bs.take k)))) ∧ ∃ j, w' = W j) ∧
        (∀ i, Calls Tryd.prog 9 #[.slice (some ⟨gz, 0, none⟩) (len + kz) cap6] (W i) fun e w' => e = .returned (.agg (v8 (shaS Z))) ∧ ∃ j, w' = W j) ∧
        (∀ i, Calls Tryd.prog 11 #[.slice (some ⟨bb, ob, none⟩) k cap, .slice (some ⟨bb, ob + k, none⟩) (len - k) (cap - k)] (W i) fun e w' => e = .returned (.agg (v8 (shaS bs))) ∧ ∃ j, w' = W j) ∧
        (∀ i, Calls Tryd.prog 11 #[.slice none 0 0, .slice (some ⟨bb, ob, none⟩) len cap] (W i) fun e w' => e = .returned (.agg (v8 (shaS bs))) ∧ ∃ j, w' = W j) ∧
        (∀ i, Calls Tryd.prog 11 #[.slice (some ⟨bb, ob, none⟩) len cap, .slice none 0 0] (W i) fun e w' => e = .returned (.agg (v8 (shaS bs))) ∧ ∃ j, w' = W j)) := show (∀ _, _) from fun ι W hb hc => by
      have hd : ∀ i, Below w.heap.size w (W i) := fun i => d7.trans ((hb i).mono d7.size)
      refine ⟨fun i => rX7.below (hb i) rX7.lt, fun i => ?_, fun i => ?_, fun i => ?_, fun i => ?_, fun i => ?_⟩
      · exact (sum_any (bs.take k) _ k cap (W i) htk (by omega) (by omega) (hL.below (hd i)) ((hby.take k).below (hd i))).mono (fun e w' ⟨he, hw⟩ => ⟨he, hc _ _ hw⟩)
      · exact (sum_any Z _ (len + kz) cap6 (W i) hZl hcz (by omega) (hL.below (hd i)) (hZ7.below (hb i))).mono (fun e w' ⟨he, hw⟩ => ⟨he, hc _ _ hw⟩)
      · have := pair_any (bs.take k) (bs.drop k) _ _ k cap (len - k) (cap - k) (W i) htk hdr (by omega) (hL.below (hd i)) ((hby.take k).below (hd i)) ((hby.drop k).below (hd i))
        rw [List.take_append_drop] at this
        exact this.mono (fun e w' ⟨he, hw⟩ => ⟨he, hc _ _ hw⟩)
      · exact (pair_any [] bs none _ 0 0 len cap (W i) rfl hlen (by omega) (hL.below (hd i)) (fun h => by cases h) (hby.below (hd i))).mono (fun e w' ⟨he, hw⟩ => ⟨he, hc _ _ hw⟩)
      · have := pair_any bs [] _ none len cap 0 0 (W i) hlen rfl (by omega) (hL.below (hd i)) (hby.below (hd i)) (fun h => by cases h)
        rw [List.append_nil] at this
        exact this.mono (fun e w' ⟨he, hw⟩ => ⟨he, hc _ _ hw⟩)
    cases pA <;> cases pZ
    all_goals
      refine region_tail 41 (by kernel_rfl) (by kernel_rfl) (by kernel_rfl) ?_
      apply Exists.intro
      refine ⟨fun ι _ W hb hc => ?_, fun w8 hb8 => ?_⟩
      · obtain ⟨hX, j1, j2, j3, j4, j5⟩ := main.out ι W hb hc
        simp only [Bool.not_true, Bool.not_false] at hA' hB'
        simp only [List.take_succ_cons, List.take_zero]
        repeat (first | (go_big_quiet_step (first | (go_at_call 9; with_reducible exact j1 _) | (go_at_call 9; with_reducible exact j2 _) | (go_at_call 11; with_reducible exact j3 _) | (go_at_call 11; with_reducible exact j4 _) | (go_at_call 11; with_reducible exact j5 _))) | (refine q_load_rowW 25 (.tmp 7) (by rfl) (by kernel_rfl) gx (by rfl) 25 _ _ hX Tryd.underlying25 rfl i25 ?_; simp only [Act.put, List.setIfInBounds_toArray, List.set_cons_succ, List.set_cons_zero]))
        exact wpQuiet_nil rfl
      · simp only [List.drop_succ_cons, List.drop_zero]
        go_wp2
        go_ret
        exact ⟨rfl, d7.trans (hb8.mono d7.size)⟩
end Go.Proofs.YtjefmnoffekeoaaDoor
