/- ShaTexts returns true and turns no old memory, for every 32 bytes, where firstState and roundWords hold what the text lays. -/
import Derived.Test.YtjefmnoffekeoaaDoorKnown
namespace Go.Proofs.YtjefmnoffekeoaaDoor
open Go.RowKit

theorem gi_set_same (l : List Int) (i : Nat) (v : Int) (h : i < l.length) : gi (l.set i v) i = v := by simp [gi, h]
theorem gi_set_ne (l : List Int) (i j : Nat) (v : Int) (h : i ≠ j) : gi (l.set i v) j = gi l j := by simp [gi, List.getElem?_set_ne h]
theorem textN_at (l : List Int) : ∀ k, k ≤ 32 → ∀ j, j < k → gi (textN l k) (2 * j) = hexd (gi l j / 16) ∧ gi (textN l k) (2 * j + 1) = hexd (gi l j % 16)
  | 0, _, j, hj => by omega
  | k + 1, hk, j, hj => by
    have hlen := textN_length l k
    rw [textN]
    by_cases e : j = k
    · subst e
      exact ⟨by rw [gi_set_ne _ _ _ _ (by omega), gi_set_same _ _ _ (by omega)], by rw [gi_set_same _ _ _ (by simp; omega)]⟩
    · have ih := textN_at l k (by omega) j (by omega)
      exact ⟨by rw [gi_set_ne _ _ _ _ (by omega), gi_set_ne _ _ _ _ (by omega)]; exact ih.1, by rw [gi_set_ne _ _ _ _ (by omega), gi_set_ne _ _ _ _ (by omega)]; exact ih.2⟩
theorem hexd_lo (y : Int) (h0 : 0 ≤ y) (h1 : y < 10) : hexd y = y + 48 := by
  obtain rfl | rfl | rfl | rfl | rfl | rfl | rfl | rfl | rfl | rfl : y = 0 ∨ y = 1 ∨ y = 2 ∨ y = 3 ∨ y = 4 ∨ y = 5 ∨ y = 6 ∨ y = 7 ∨ y = 8 ∨ y = 9 := by omega
  all_goals rfl
theorem hexd_hi (y : Int) (h0 : 10 ≤ y) (h1 : y < 16) : hexd y = y + 87 := by
  obtain rfl | rfl | rfl | rfl | rfl | rfl : y = 10 ∨ y = 11 ∨ y = 12 ∨ y = 13 ∨ y = 14 ∨ y = 15 := by omega
  all_goals rfl
theorem str_index (xs : List Int) (k : Nat) (hk : k < xs.length) (h : 0 ≤ gi xs k ∧ gi xs k < 256) (w : World) : (Instr.index 9 (.string (strOfNums xs)) (.int .i64 (k : Int))).run Tryd.prog w = .ok (.int .u8 (gi xs k)) w := by
  have hs : (strOfNums xs).size = xs.length := strOfNums_size xs
  rw [run_index_string w 9 _ _ _ Tryd.underlying9]
  have hc : (0 : Int) ≤ (k : Int) ∧ (k : Int) < ((strOfNums xs).size : Int) := by omega
  rw [dif_pos hc]
  have e : (strOfNums xs)[(k : Int).toNat]'(by omega) = UInt8.ofNat (gi xs k).toNat := by
    show ((xs.map fun n => UInt8.ofNat n.toNat).toArray)[(k : Int).toNat]'_ = _
    simp [gi, hk]
  rw [e]
  have e2 : ((UInt8.ofNat (gi xs k).toNat).toNat : Int) = gi xs k := by
    rw [UInt8.toNat_ofNat_of_lt' (by show _ < 256; omega)]; omega
  rw [e2]

set_option maxRecDepth 20000 in
set_option maxHeartbeats 1000000 in
theorem texts_any (l : List Int) (w : World) (hl : l.length = 32) (h8 : In8 l) (hL : Laid w) :
    Calls Tryd.prog 6 #[.agg (v8 l)] w fun e w' => e = .returned (.bool true) ∧ Below w.heap.size w w' := by
  have h25 : (Tryd.prog.info? 25).map (·.size) = some (v8 l).size := by rw [v8_size, hl]; kernel_rfl
  have b0 : Below w.heap.size w (w.alloc (.cells (v8 l) 25)) := (Below.refl _ _).alloc (Nat.le_refl _) _
  have hk1 := known_any _ (hL.below b0)
  have hsz : (strOfNums (textS l)).size = 64 := by rw [strOfNums_size]; exact textN_length l 32
  have hidx : ∀ k : Nat, k < 64 → (0 ≤ gi (textS l) k ∧ gi (textS l) k < 256) → ∀ wx, (Instr.index 9 (.string (strOfNums (textS l))) (.int .i64 (k : Int))).run Tryd.prog wx = .ok (.int .u8 (gi (textS l) k)) wx := fun k hk hb wx =>
    str_index _ k (by rw [show (textS l).length = 64 from textN_length l 32]; exact hk) hb wx
  have htx : ∀ wx, Calls Tryd.prog 12 #[.agg (v8 l)] wx fun e w' => e = .returned (.string (strOfNums (textS l))) ∧ Below wx.heap.size wx w' := fun wx => text_any l wx hl h8
  generalize strOfNums (textS l) = S at hsz hidx htx
  go_enter Tryd.func6, Tryd.ntmps6
  go_wp2_with (first | (go_at_call 8; refine Calls.mono hk1 ?_; rintro e w1 ⟨rfl, hb1⟩; have r1 := Row.below (Row.new w 25 (v8 l)) hb1 (by simp)) | (refine wpList_load_row (by rfl) 25 (.tmp 1) (by rfl) w.heap.size (by rfl) 25 (v8 l) (0, 0) _ r1 Tryd.underlying25 rfl h25 ?_) | (go_at_call 12; refine Calls.mono (htx _) ?_; rintro e w2 ⟨rfl, hb2⟩))
  have hs1 := hb1.size
  simp only [World.size_alloc] at hs1 hb1
  have r2 := r1.below hb2 (by omega)
  have hbw : Below w.heap.size w w2 := (b0.trans (hb1.mono (by omega))).trans (hb2.mono (by omega))
  clear htx hk1 b0 hb1 hb2 r1 hL
  go_loop [4] (fun i => ∃ k : Nat, k ≤ 64 ∧ i = .int .i64 k) (fun i => 64 - (intOf i).toNat)
  case atStart => exact ⟨0, by omega, rfl⟩
  case round =>
    obtain ⟨k, hk, rfl⟩ := hrel
    by_cases hlt : k < 64
    · obtain ⟨x0, x1⟩ := h8 (k / 2)
      have hcell : w2.cell? ⟨w.heap.size, k / 2, none⟩ = some (.int .u8 (gi l (k / 2))) := r2.cell8 (by omega)
      have hta := textN_at l 32 (by omega) (k / 2) (by omega)
      obtain ⟨x, hx⟩ : ∃ x, x = gi l (k / 2) := ⟨_, rfl⟩
      rw [← hx] at x0 x1 hcell hta
      have hnib : ∃ y : Int, 0 ≤ y ∧ y < 16 ∧ gi (textS l) k = hexd y ∧ (k % 2 = 0 ∧ y = x / 16 ∨ k % 2 = 1 ∧ y = x % 16) := by
        unfold textS
        rcases Nat.mod_two_eq_zero_or_one k with h | h
        · exact ⟨x / 16, by omega, by omega, by rw [show 2 * (k / 2) = k by omega] at hta; exact hta.1, .inl ⟨h, rfl⟩⟩
        · exact ⟨x % 16, by omega, by omega, by rw [show 2 * (k / 2) + 1 = k by omega] at hta; exact hta.2, .inr ⟨h, rfl⟩⟩
      clear hta hx
      obtain ⟨y, y0, y1, hy, hcase⟩ := hnib
      have hid : ∀ wx, (Instr.index 9 (.string S) (.int .i64 (k : Int))).run Tryd.prog wx = .ok (.int .u8 (hexd y)) wx := by
        intro wx
        rw [← hy]; refine hidx k hlt ?_ wx
        rw [hy]
        by_cases h10 : y < 10
        · rw [hexd_lo y y0 h10]; omega
        · rw [hexd_hi y (by omega) y1]; omega
      clear hidx hy
      by_cases h10 : y < 10
      · rw [hexd_lo y y0 h10] at hid
        rcases hcase with ⟨hm, rfl⟩ | ⟨hm, rfl⟩
        all_goals
          go_wp2
          go_round
          case rel => exact ⟨k + 1, by omega, by go_num⟩
          case measure => simp [intOf]; omega
      · rw [hexd_hi y (by omega) y1] at hid
        rcases hcase with ⟨hm, rfl⟩ | ⟨hm, rfl⟩
        all_goals
          go_wp2
          go_round
          case rel => exact ⟨k + 1, by omega, by go_num⟩
          case measure => simp [intOf]; omega
    · go_wp2
      go_ret
      exact ⟨rfl, hbw⟩
end Go.Proofs.YtjefmnoffekeoaaDoor
