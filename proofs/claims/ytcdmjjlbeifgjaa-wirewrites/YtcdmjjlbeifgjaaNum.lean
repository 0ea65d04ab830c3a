/- wire's bounds and (*writer).number: what they answer, and what is written. -/
import Derived.Test.YtcdmjjlbeifgjaaWr
import Derived.Deep.RegionLaw
namespace Go.Proofs.Ytcdmjjlbeifgjaa
open Go.RowKit

set_option maxRecDepth 20000 in
set_option maxHeartbeats 1000000 in
theorem bounds_any (f : Int) (w : World) : Calls Try.prog 49 #[.int .i64 f] w fun e w' => e = .returned (.tuple #[.int .i64 (bsz f), .int .i64 (blo f), .int .i64 (bhi f)]) ∧ w' = w := by
  by_cases h0 : f = 0
  · subst h0; go_enter Try.func49, Try.ntmps49; go_wp2; go_ret3; exact ⟨rfl, rfl⟩
  by_cases h1 : f = 1
  · subst h1; go_enter Try.func49, Try.ntmps49; go_wp2; go_ret3; exact ⟨rfl, rfl⟩
  by_cases h2 : f = 2
  · subst h2; go_enter Try.func49, Try.ntmps49; go_wp2; go_ret3; exact ⟨rfl, rfl⟩
  by_cases h3 : f = 3
  · subst h3; go_enter Try.func49, Try.ntmps49; go_wp2; go_ret3; exact ⟨rfl, rfl⟩
  by_cases h4 : f = 4
  · subst h4; go_enter Try.func49, Try.ntmps49; go_wp2; go_ret3; exact ⟨rfl, rfl⟩
  have e0 : (f == 0) = false := by simpa using h0
  have e1 : (f == 1) = false := by simpa using h1
  have e2 : (f == 2) = false := by simpa using h2
  have e3 : (f == 3) = false := by simpa using h3
  have e4 : (f == 4) = false := by simpa using h4
  have s1 : bsz f = 1 := by simp [bsz, h2, h3]
  have s2 : blo f = 0 := by simp [blo, h3]
  have s3 : bhi f = 1 := by simp [bhi, h0, h1, h2, h3, h4]
  rw [s1, s2, s3]
  clear s1 s2 s3
  go_enter Try.func49, Try.ntmps49; go_wp2; go_ret3; exact ⟨rfl, rfl⟩

set_option maxRecDepth 20000 in
set_option maxHeartbeats 1000000 in
theorem number_any (f n E : Int) (w : World) (B g : Nat) (bs : List Int) (hW : Wr w B g bs) (hl : bs.length ≤ 1099511627776) (hB : B ≤ w.heap.size) (hE : E ≠ 0) :
    Calls Try.prog 37 #[.pointer (some ⟨g, 0, none⟩), .int .i64 f, .int .i64 n, .int .i64 E] w fun e w' => e = .returned (.int .i64 (numE f n E)) ∧ Below B w w' ∧ (numE f n E = 0 → Wr w' B g (bs ++ nb (bsz f) n)) := by
  have hbn := fun w1 => bounds_any f w1
  have hs := bsz_pos f
  have hlo := blo_nonneg f
  have hhi := bhi_le f
  unfold numE nb
  generalize bsz f = s at *
  generalize blo f = lo at *
  generalize bhi f = hi at *
  by_cases h1 : n < lo
  · rw [if_pos (.inl h1)]
    go_enter Try.func37, Try.ntmps37
    go_wp2_with (go_at_call 49; (with_reducible refine Calls.mono (hbn _) ?_); rintro e w2 ⟨rfl, hw⟩; obtain rfl := hw.symm; clear hw)
    go_ret
    exact ⟨rfl, Below.refl _ _, fun h => absurd h hE⟩
  by_cases h2 : hi < n
  · rw [if_pos (.inr h2)]
    go_enter Try.func37, Try.ntmps37
    go_wp2_with (go_at_call 49; (with_reducible refine Calls.mono (hbn _) ?_); rintro e w2 ⟨rfl, hw⟩; obtain rfl := hw.symm; clear hw)
    go_ret
    exact ⟨rfl, Below.refl _ _, fun h => absurd h hE⟩
  rw [if_neg (by omega)]
  go_enter Try.func37, Try.ntmps37
  go_wp2_with (go_at_call 49; (with_reducible refine Calls.mono (hbn _) ?_); rintro e w2 ⟨rfl, hw⟩; obtain rfl := hw.symm; clear hw)
  go_loopw [12] (fun k wr => ∃ j i : Nat, k = .int .i64 ((i : Int) - 1) ∧ j + i = s ∧ Wr wr B g (bs ++ nbt s n j) ∧ Below B w wr) (fun k _ => (intOf k + 1).toNat)
  case atStart => exact ⟨0, s, by simp, by omega, by simpa [nbt] using hW, Below.refl _ _⟩
  case round =>
    obtain ⟨j, i, rfl, hji, hWj, hb⟩ := hrel
    cases i with
    | succ i =>
      obtain ⟨hBg, sp, cap, hr, ho⟩ := hWj
      have hnb : bs ++ nbt s n j ++ [n / 256 ^ i % 256] = bs ++ nbt s n (j + 1) := by
        rw [List.append_assoc, nbt, show s - 1 - j = i by omega]
      have hlb : (bs ++ nbt s n j).length ≤ 1099511627780 := by rw [List.length_append, nbt_length]; omega
      have hsz := hb.size
      rw [show ((i + 1 : Nat) : Int) - 1 = (i : Int) by omega]
      have hnb' : Hid (bs ++ nbt s n j ++ [n / 256 ^ i % 256] = bs ++ nbt s n (j + 1)) := hnb
      clear hnb
      generalize bs ++ nbt s n j = cs at *
      have hc0 : wr.cell? ⟨g, 0, none⟩ = some (.slice sp cs.length cap) := hr.cell
      rcases (by omega : i = 0 ∨ i = 1 ∨ i = 2 ∨ i = 3) with rfl | rfl | rfl | rfl
      · go_wp2
        have hc1 := hr.frozen (j := 0)
        have wr0 : IntKind.i64.wrap 0 = 0 := rfl
        have hca : ∀ o, (wr.alloc o).cell? ⟨g, 0, none⟩ = some (.slice sp cs.length cap) := fun o => (hr.alloc o).cell
        have hfa : ∀ o, (wr.alloc o).frozen? ⟨g, 0, none⟩ = false := fun o => (hr.alloc o).frozen
        have hs2 : B ≤ wr.heap.size := by omega
        have hl2 : cs.length + 1 ≤ 70368744177664 := by omega
        go_region_law (refine step8 (.tmp 38) (.tmp 44) 25 5 ?h1 ?h2 B Try.underlying25 info5 (.slice sp cs.length cap) cs ?h3 ?ho (some ⟨wr.heap.size, 0, none⟩) 1 1 [IntKind.u8.wrap n] ?h4 ?h5 ?h6 ?hby hl2 ?hB ?_; (case h1 => rfl); (case h2 => rfl); (case h3 => rfl); (case h4 => rfl); (case h5 => rfl); (case h6 => exact (fun h => by cases h)); (case hby => exact (bytes_new wr 5 [IntKind.u8.wrap n])); (case ho => exact (Own8.alloc ho _)); (case hB => exact Nat.le_trans hs2 (by simp)); simp only [List.length_append, List.length_cons, List.length_nil, Nat.zero_add]; intro sp5 cap5 w5 o5 b5 k5; have hr5 := k5 _ _ _ (by decide) (hr.alloc _); have hc5 : w5.cell? ⟨g, 0, none⟩ = some (.slice sp cs.length cap) := hr5.cell; have hf5 := hr5.frozen (j := 0))
        all_goals
          rw [IntKind.wrap_u8] at o5
          go_wp2
          go_roundw
          case rel => exact ⟨j + 1, 0, by go_num, by omega, by have := Wr.stored hBg hr5 (by simp) o5; rw [← hnb'.out]; simpa using this, (hb.trans ((((Below.refl B wr).alloc hs2 _).drew).trans b5)).setCell hBg _⟩
          case measure => simp [intOf]
      · go_wp2
        have hc1 := hr.frozen (j := 0)
        have wr0 : IntKind.i64.wrap 8 = 8 := rfl
        have hca : ∀ o, (wr.alloc o).cell? ⟨g, 0, none⟩ = some (.slice sp cs.length cap) := fun o => (hr.alloc o).cell
        have hfa : ∀ o, (wr.alloc o).frozen? ⟨g, 0, none⟩ = false := fun o => (hr.alloc o).frozen
        have hs2 : B ≤ wr.heap.size := by omega
        have hl2 : cs.length + 1 ≤ 70368744177664 := by omega
        go_region_law (refine step8 (.tmp 38) (.tmp 44) 25 5 ?h1 ?h2 B Try.underlying25 info5 (.slice sp cs.length cap) cs ?h3 ?ho (some ⟨wr.heap.size, 0, none⟩) 1 1 [IntKind.u8.wrap (n / 256)] ?h4 ?h5 ?h6 ?hby hl2 ?hB ?_; (case h1 => rfl); (case h2 => rfl); (case h3 => rfl); (case h4 => rfl); (case h5 => rfl); (case h6 => exact (fun h => by cases h)); (case hby => exact (bytes_new wr 5 [IntKind.u8.wrap (n / 256)])); (case ho => exact (Own8.alloc ho _)); (case hB => exact Nat.le_trans hs2 (by simp)); simp only [List.length_append, List.length_cons, List.length_nil, Nat.zero_add]; intro sp5 cap5 w5 o5 b5 k5; have hr5 := k5 _ _ _ (by decide) (hr.alloc _); have hc5 : w5.cell? ⟨g, 0, none⟩ = some (.slice sp cs.length cap) := hr5.cell; have hf5 := hr5.frozen (j := 0))
        all_goals
          rw [IntKind.wrap_u8] at o5
          go_wp2
          go_roundw
          case rel => exact ⟨j + 1, 1, by go_num, by omega, by have := Wr.stored hBg hr5 (by simp) o5; rw [← hnb'.out]; simpa using this, (hb.trans ((((Below.refl B wr).alloc hs2 _).drew).trans b5)).setCell hBg _⟩
          case measure => simp [intOf]
      · go_wp2
        have hc1 := hr.frozen (j := 0)
        have wr0 : IntKind.i64.wrap 16 = 16 := rfl
        have hca : ∀ o, (wr.alloc o).cell? ⟨g, 0, none⟩ = some (.slice sp cs.length cap) := fun o => (hr.alloc o).cell
        have hfa : ∀ o, (wr.alloc o).frozen? ⟨g, 0, none⟩ = false := fun o => (hr.alloc o).frozen
        have hs2 : B ≤ wr.heap.size := by omega
        have hl2 : cs.length + 1 ≤ 70368744177664 := by omega
        go_region_law (refine step8 (.tmp 38) (.tmp 44) 25 5 ?h1 ?h2 B Try.underlying25 info5 (.slice sp cs.length cap) cs ?h3 ?ho (some ⟨wr.heap.size, 0, none⟩) 1 1 [IntKind.u8.wrap (n / 65536)] ?h4 ?h5 ?h6 ?hby hl2 ?hB ?_; (case h1 => rfl); (case h2 => rfl); (case h3 => rfl); (case h4 => rfl); (case h5 => rfl); (case h6 => exact (fun h => by cases h)); (case hby => exact (bytes_new wr 5 [IntKind.u8.wrap (n / 65536)])); (case ho => exact (Own8.alloc ho _)); (case hB => exact Nat.le_trans hs2 (by simp)); simp only [List.length_append, List.length_cons, List.length_nil, Nat.zero_add]; intro sp5 cap5 w5 o5 b5 k5; have hr5 := k5 _ _ _ (by decide) (hr.alloc _); have hc5 : w5.cell? ⟨g, 0, none⟩ = some (.slice sp cs.length cap) := hr5.cell; have hf5 := hr5.frozen (j := 0))
        all_goals
          rw [IntKind.wrap_u8] at o5
          go_wp2
          go_roundw
          case rel => exact ⟨j + 1, 2, by go_num, by omega, by have := Wr.stored hBg hr5 (by simp) o5; rw [← hnb'.out]; simpa using this, (hb.trans ((((Below.refl B wr).alloc hs2 _).drew).trans b5)).setCell hBg _⟩
          case measure => simp [intOf]
      · go_wp2
        have hc1 := hr.frozen (j := 0)
        have wr0 : IntKind.i64.wrap 24 = 24 := rfl
        have hca : ∀ o, (wr.alloc o).cell? ⟨g, 0, none⟩ = some (.slice sp cs.length cap) := fun o => (hr.alloc o).cell
        have hfa : ∀ o, (wr.alloc o).frozen? ⟨g, 0, none⟩ = false := fun o => (hr.alloc o).frozen
        have hs2 : B ≤ wr.heap.size := by omega
        have hl2 : cs.length + 1 ≤ 70368744177664 := by omega
        go_region_law (refine step8 (.tmp 38) (.tmp 44) 25 5 ?h1 ?h2 B Try.underlying25 info5 (.slice sp cs.length cap) cs ?h3 ?ho (some ⟨wr.heap.size, 0, none⟩) 1 1 [IntKind.u8.wrap (n / 16777216)] ?h4 ?h5 ?h6 ?hby hl2 ?hB ?_; (case h1 => rfl); (case h2 => rfl); (case h3 => rfl); (case h4 => rfl); (case h5 => rfl); (case h6 => exact (fun h => by cases h)); (case hby => exact (bytes_new wr 5 [IntKind.u8.wrap (n / 16777216)])); (case ho => exact (Own8.alloc ho _)); (case hB => exact Nat.le_trans hs2 (by simp)); simp only [List.length_append, List.length_cons, List.length_nil, Nat.zero_add]; intro sp5 cap5 w5 o5 b5 k5; have hr5 := k5 _ _ _ (by decide) (hr.alloc _); have hc5 : w5.cell? ⟨g, 0, none⟩ = some (.slice sp cs.length cap) := hr5.cell; have hf5 := hr5.frozen (j := 0))
        all_goals
          rw [IntKind.wrap_u8] at o5
          go_wp2
          go_roundw
          case rel => exact ⟨j + 1, 3, by go_num, by omega, by have := Wr.stored hBg hr5 (by simp) o5; rw [← hnb'.out]; simpa using this, (hb.trans ((((Below.refl B wr).alloc hs2 _).drew).trans b5)).setCell hBg _⟩
          case measure => simp [intOf]
    | zero =>
      obtain rfl : j = s := by omega
      go_wp2
      go_ret
      exact ⟨rfl, hb, fun _ => hWj⟩
end Go.Proofs.Ytcdmjjlbeifgjaa
