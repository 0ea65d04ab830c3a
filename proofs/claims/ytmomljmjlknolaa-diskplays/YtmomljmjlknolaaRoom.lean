/- DiskRoom returns true and turns no old memory, for any number and any numbers. No condition. -/
import Derived.Test.YtmomljmjlknolaaSt
namespace Go.Proofs.Ytmomljmjlknolaa
open Go Go.RowKit
/-- The numbers zs lie where a slice that came in says. -/
def Ints (w : World) (p : Option Addr) (zs : List Int) : Prop :=
  0 < zs.length → ∃ b o, p = some ⟨b, o, none⟩ ∧ ∀ j, j < zs.length → w.cell? ⟨b, o + j, none⟩ = some (.int .i64 (gi zs j))
theorem Ints.below {w w' : World} {B : Nat} {p : Option Addr} {zs : List Int} (h : Ints w p zs) (hb : Below B w w') (hB : w.heap.size ≤ B) : Ints w' p zs := fun hp => by
  obtain ⟨b, o, rfl, hc⟩ := h hp
  refine ⟨b, o, rfl, fun j hj => ?_⟩
  have h1 := hc j hj
  have h2 := block_lt_of_cell h1
  rw [hb.cell (p := ⟨b, o + j, none⟩) (by simp only at h2 ⊢; omega)]; exact h1
theorem Ints.nil (w : World) (sp : Option Addr) : Ints w sp [] := fun h => by simp at h
theorem zer_add (a b : Nat) : zer a ++ zer b = zer (a + b) := List.replicate_append_replicate
/-- A disk of noughts, all with power. -/
def dR (r : Int) (m : Nat) (o : Int) : D := ⟨r, zer m, 0, 0, false, o⟩
theorem room_fits {r o : Int} {m k : Nat} (h : (m : Int) + k ≤ r) : aErr (dR r m o) (zer k) = 0 ∧ dApp (dR r m o) (zer k) = dR r (m + k) (o + 1) := by
  have h1 : ¬ ((k : Int) > r - m) := by omega
  simp [aErr, dApp, dR, zer_length, zer_add, h1, wErr, dWork]
theorem room_full {r o : Int} {m k : Nat} (h : ¬ (m : Int) + k ≤ r) : aErr (dR r m o) (zer k) = 16 ∧ dApp (dR r m o) (zer k) = dR r m o := by
  have h1 : (k : Int) > r - m := by omega
  have h2 : ¬ ((k : Int) ≤ r - m) := by omega
  simp [aErr, dApp, dR, zer_length, h2]

set_option maxRecDepth 20000 in
set_option maxHeartbeats 1000000 in
theorem room_walk (room : Int) (zs : List Int) (a : Option Addr) (cap : Nat) (w : World) (hI : Ints w a zs) (hl : zs.length ≤ 9223372036854775807) :
    Calls Try.prog 6 #[.int .i64 room, .slice a zs.length cap] w fun e w' => e = .returned (.bool true) ∧ Below w.heap.size w w' := by
  have h0 := Int.emod_nonneg room (show (200 : Int) ≠ 0 by decide)
  have h1 := Int.emod_lt_of_pos room (show (0 : Int) < 200 by decide)
  have hw1 := fun w1 => within_any room 200 w1 (by decide) (by decide)
  obtain ⟨q, hq⟩ : ∃ q : Int, room % 200 = q := ⟨_, rfl⟩
  rw [hq] at h0 h1 hw1
  clear hq
  have hnew := fun w1 hb => st_new (1 + q) w w1 hb (by omega)
  go_enter Try.func6, Try.ntmps6
  go_wp2_with (first | (go_at_call 7; (with_reducible refine Calls.mono (known_any _) ?_); rintro e w1 ⟨rfl, hb1⟩) | (go_at_call 10; (with_reducible refine Calls.mono (hw1 _) ?_); rintro e w2 ⟨rfl, hw⟩; obtain rfl := hw.symm; clear hw) | (go_at_call 8; (with_reducible refine Calls.mono (hnew _ hb1) ?_); rintro e w3 ⟨g, rfl, s1⟩))
  clear hnew hw1 hb1
  go_loopw [7, 8] (fun n i wr => ∃ (j m : Nat) (o : Int) (h : Nat), n = .int .i64 m ∧ i = .int .i64 j ∧ j ≤ 30 ∧ (m : Int) ≤ 1 + q ∧ (0 ≤ o ∧ o ≤ j) ∧ St w wr g h (dR (1 + q) m o)) (fun _ i _ => 30 - (intOf i).toNat)
  case atStart => exact ⟨0, 0, 0, g, rfl, rfl, by omega, by omega, by omega, s1⟩
  case round =>
    obtain ⟨j, m, o, h, rfl, rfl, hj, hm, ho, s⟩ := hrel
    clear s1
    by_cases hlt : j < zs.length
    · by_cases h30 : j < 30
      · obtain ⟨b, off, rfl, hc⟩ := hI.below s.below (Nat.le_refl _) (by omega)
        have hcell := hc j hlt
        have z0 := Int.emod_nonneg (gi zs j) (show (60 : Int) ≠ 0 by decide)
        have z1 := Int.emod_lt_of_pos (gi zs j) (show (0 : Int) < 60 by decide)
        have hw2 := fun w1 => within_any (gi zs j) 60 w1 (by decide) (by decide)
        obtain ⟨k, hk⟩ : ∃ k : Nat, gi zs j % 60 = k := ⟨(gi zs j % 60).toNat, by omega⟩
        rw [hk] at hw2 z0 z1
        clear hk hc
        generalize gi zs j = z at *
        have hmk := make8 k (k : Int) rfl (by omega)
        have sa := s.alloc (.cells (v8 (zer k)) 5)
        have hbn := bytes_new wr (zer k)
        by_cases hfit : (m : Int) + k ≤ 1 + q
        · obtain ⟨f1, f2⟩ := room_fits (o := o) hfit
          have hap := st_append sa (zer k) (some ⟨wr.heap.size, 0, none⟩) k k (zer_length k).symm hbn (fun h => by cases h) (by rw [zer_length]; omega) (show o < 1000000 by omega) _ _ f1 f2
          have hby := fun w4 h4 (s4 : St w w4 g h4 (dR (1 + q) (m + k) (o + 1))) => st_bytes s4 (zer (m + k)) (m + k) rfl (zer_length _)
          clear f1 f2 sa hbn
          go_wp2_with (first | (go_at_call 10; (with_reducible refine Calls.mono (hw2 _) ?_); rintro e w2 ⟨rfl, hw⟩; obtain rfl := hw.symm; clear hw) | (go_at_call 11; (with_reducible refine Calls.mono hap ?_); rintro e w4 ⟨rfl, h4, s4, f4⟩) | (go_at_call 19; (with_reducible refine Calls.mono (hby _ _ s4) ?_); rintro e w5 ⟨b5, rfl, r5, hb5, s5, f5⟩))
          go_roundw
          case rel => exact ⟨j + 1, m + k, o + 1, h4, by go_num, by go_num, by omega, by omega, by omega, s5⟩
          case measure => simp [intOf]; omega
        · obtain ⟨f1, f2⟩ := room_full (o := o) hfit
          have hap := st_append sa (zer k) (some ⟨wr.heap.size, 0, none⟩) k k (zer_length k).symm hbn (fun h => by cases h) (by rw [zer_length]; omega) (show o < 1000000 by omega) _ _ f1 f2
          have hby := fun w4 h4 (s4 : St w w4 g h4 (dR (1 + q) m o)) => st_bytes s4 (zer m) m rfl (zer_length _)
          clear f1 f2 sa hbn
          go_wp2_with (first | (go_at_call 10; (with_reducible refine Calls.mono (hw2 _) ?_); rintro e w2 ⟨rfl, hw⟩; obtain rfl := hw.symm; clear hw) | (go_at_call 11; (with_reducible refine Calls.mono hap ?_); rintro e w4 ⟨rfl, h4, s4, f4⟩) | (go_at_call 19; (with_reducible refine Calls.mono (hby _ _ s4) ?_); rintro e w5 ⟨b5, rfl, r5, hb5, s5, f5⟩))
          go_roundw
          case rel => exact ⟨j + 1, m, o, h4, by go_num, by go_num, by omega, by omega, by omega, s5⟩
          case measure => simp [intOf]; omega
      · have hlt' : decide ((j : Int) < zs.length) = true := by simp; omega
        have h30' : decide ((j : Int) < 30) = false := by simp; omega
        go_wp2
        go_ret
        exact ⟨rfl, s.below⟩
    · have hlt' : decide ((j : Int) < zs.length) = false := by simp; omega
      go_wp2
      go_ret
      exact ⟨rfl, s.below⟩
end Go.Proofs.Ytmomljmjlknolaa
