/- The reference's Inner: a block of hashes, written or refused. No old memory turns. -/
import Derived.Test.YtgcffdnbihfghaaInner
import Derived.Test.YtgcffdnbihfghaaClaims9
namespace Go.Proofs.Ytgcffdnbihfghaa
open Go Go.RowKit
theorem bytes_cut {w : World} {b o : Nat} {F : List Int} (h : Bytes w (some ⟨b, o, none⟩) F) (j : Nat) : Bytes w (some ⟨b, o + j * 32, none⟩) (cutF F j) := by
  have := (h.drop (32 * j)).take 32
  rw [Nat.mul_comm 32 j] at this
  unfold cutF
  rw [Nat.mul_comm 32 j]
  exact this
set_option maxRecDepth 20000 in
set_option maxHeartbeats 1000000 in
theorem rinner_any (F : List Int) (n : Nat) (pa : Option Addr) (ca : Nat) (w : World) (hF : F.length = 32 * n) (hn : n ≤ 1000000) (hb : Bytes w pa F) :
    Calls Try.prog 17 #[.slice pa n ca] w (Gives w (outI F n) (errI n)) := by
  by_cases h0 : n = 0
  · subst h0
    have hE : errI 0 = 1 := rfl
    have hO : outI F 0 = [] := rfl
    unfold Gives
    rw [hE, hO]
    go_enter Try.func17, Try.ntmps17
    go_wp2
    go_ret2
    exact ⟨none, 0, rfl, own8_none _ _, Below.refl _ _⟩
  by_cases h8 : 8 < n
  · have hE : errI n = 4 := by unfold errI; rw [if_neg h0, if_pos h8]
    have hO : outI F n = [] := by unfold outI; rw [hE, if_neg (by decide)]
    unfold Gives
    rw [hE, hO]
    go_enter Try.func17, Try.ntmps17
    go_wp2
    go_ret2
    exact ⟨none, 0, rfl, own8_none _ _, Below.refl _ _⟩
  have hE : errI n = 0 := by unfold errI; rw [if_neg h0, if_neg h8]
  have hO : outI F n = [110, (n : Int)] ++ F := by unfold outI; rw [if_pos hE]
  obtain ⟨b, o, rfl, hcl⟩ := hb (by omega)
  have hbl := block_lt_of_cell (hcl 0 (by omega))
  simp only at hbl
  clear hcl
  have hn0 : ((n : Int) == 0) = false := by simp; omega
  have o1 : Own8 (w.alloc (.cells (v8 [110, (n : Int)]) 5)) w.heap.size 5 (.slice (some ⟨w.heap.size, 0, none⟩) 2 2) [110, (n : Int)] := own8_row (Row.new _ _ _) rfl (by unfold maxLen; omega)
  have b1 : Below w.heap.size w (w.alloc (.cells (v8 [110, (n : Int)]) 5)) := (Below.refl _ _).alloc (Nat.le_refl _) _
  unfold Gives
  rw [hE, hO]
  go_enter Try.func17, Try.ntmps17
  go_wp2
  change Code.wp _ _ _ _ (w.alloc (.cells (v8 [110, (n : Int)]) 5))
  generalize w.alloc (.cells (v8 [110, (n : Int)]) 5) = w1 at o1 b1 ⊢
  go_loopw [4, 5] (fun v i wr => ∃ (j : Nat) (sp : Option Addr) (cap len : Nat), j ≤ n ∧ i = .int .i64 j ∧ len = 2 + 32 * j ∧ v = .slice sp len cap ∧ Own8 wr w.heap.size 5 (.slice sp len cap) ([110, (n : Int)] ++ F.take (32 * j)) ∧ Below w.heap.size w wr) (fun _ i _ => n - (intOf i).toNat)
  case atStart => exact ⟨0, some ⟨w.heap.size, 0, none⟩, 2, 2, by omega, rfl, rfl, rfl, by simpa using o1, b1⟩
  case round =>
    obtain ⟨j, sp, cap, len, hj, rfl, hlen, rfl, ow, b2⟩ := hrel
    by_cases hjn : j < n
    · have hcl := cutF_len hF hjn
      have hbc := bytes_cut (hb.below (b2.mono (Nat.le_refl _))) j
      have hcat : [110, (n : Int)] ++ F.take (32 * j) ++ cutF F j = [110, (n : Int)] ++ F.take (32 * (j + 1)) := by rw [List.append_assoc, take_cut]
      have hll : ([110, (n : Int)] ++ F.take (32 * (j + 1))).length = len + 32 := by simp [hF]; omega
      have hl0 : ([110, (n : Int)] ++ F.take (32 * j)).length + 32 ≤ 70368744177664 := by simp [hF]; omega
      have hlen' : Hid (len = 2 + 32 * j) := ⟨hlen⟩
      have hs := b2.size
      clear hlen
      generalize cutF F j = C at *
      generalize hX : [110, (n : Int)] ++ F.take (32 * j) = X at *
      generalize hY : [110, (n : Int)] ++ F.take (32 * (j + 1)) = Y at *
      have hY' : Hid ([110, (n : Int)] ++ F.take (32 * (j + 1)) = Y) := ⟨hY⟩
      clear hX hY
      go_wp2_with (at_builtin; (refine append8g (.tmp 22) (.tmp 26) 27 5 (by rfl) (by rfl) w.heap.size Try.underlying27 info5 (.slice sp len cap) X (by rfl) ?ho (some ⟨b, o + j * 32, none⟩) 32 32 C (by rfl) hcl ?hnil ?hby ?hlen ?hB ?_; (case ho => exact ow); (case hnil => exact (fun h => by cases h)); (case hby => exact hbc); (case hlen => exact hl0); (case hB => exact hs); rw [hcat, hll]; intro sp5 cap5 w5 o5 b5 g5))
      go_roundw
      case rel => exact ⟨j + 1, sp5, cap5, len + 32, by omega, by go_num, by have := hlen'.out; omega, rfl, by rw [hY'.out]; exact o5, b2.trans b5⟩
      case measure => simp [intOf]; omega
    · obtain rfl : j = n := by omega
      have hft : F.take (32 * j) = F := List.take_of_length_le (by omega)
      rw [hft] at ow
      have hl2 : ([110, (j : Int)] ++ F).length = len := by simp [hF]; omega
      go_wp2
      go_ret2
      have e : len = F.length + 1 + 1 := by omega
      clear hl2
      subst e
      exact ⟨sp, cap, rfl, by simpa using ow, b2⟩
end Go.Proofs.Ytgcffdnbihfghaa
