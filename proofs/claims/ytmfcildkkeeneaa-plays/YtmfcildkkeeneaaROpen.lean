/- The reference's ledger: Open. -/
import Derived.Test.YtmfcildkkeeneaaLSt
namespace Go.Proofs.Ytmfcildkkeeneaa
open Go Go.RowKit

def beO (b : List Int) (i : Nat) : Nat → Int
  | 0 => 0
  | k + 1 => beO b i k * 256 + gi b (i + k)
def okO (b : List Int) (i : Nat) : Nat → Bool
  | 0 => true
  | k + 1 => okO b i k && (gi b (i + 4 + k) == 255 - gi b (i + k))
theorem gi_cut (b : List Int) (i t : Nat) (ht : t < 8) : gi ((b.drop i).take 8) t = gi b (i + t) := by simp [gi, List.getD, List.getElem?_take_of_lt ht]
theorem num_off (b : List Int) (i : Nat) : numL ((b.drop i).take 8) = if okO b i 4 = true then beO b i 4 else 0 := by
  have e0 : be4 ((b.drop i).take 8) = beO b i 4 := by
    unfold be4
    rw [gi_cut b i 0 (by omega), gi_cut b i 1 (by omega), gi_cut b i 2 (by omega), gi_cut b i 3 (by omega)]
    simp only [beO]; omega
  have e1 : okR ((b.drop i).take 8) ↔ okO b i 4 = true := by
    unfold okR
    rw [gi_cut b i 0 (by omega), gi_cut b i 1 (by omega), gi_cut b i 2 (by omega), gi_cut b i 3 (by omega), gi_cut b i 4 (by omega), gi_cut b i 5 (by omega), gi_cut b i 6 (by omega), gi_cut b i 7 (by omega)]
    simp [okO, Nat.add_assoc, and_assoc]
  unfold numL
  rw [e0]
  by_cases h : okO b i 4 = true
  · rw [if_pos (e1.2 h), if_pos h]
  · rw [if_neg (fun k => h (e1.1 k)), if_neg h]
theorem beO_range {b : List Int} (hb : By b) {i k : Nat} (hi : i + 8 ≤ b.length) (hk : k ≤ 4) : 0 ≤ beO b i k ∧ beO b i k < 4294967296 := by
  have h0 := gi_by hb (i + 0) (by omega)
  have h1 := gi_by hb (i + 1) (by omega)
  have h2 := gi_by hb (i + 2) (by omega)
  have h3 := gi_by hb (i + 3) (by omega)
  rcases (by omega : k = 0 ∨ k = 1 ∨ k = 2 ∨ k = 3 ∨ k = 4) with rfl | rfl | rfl | rfl | rfl <;> simp only [beO] <;> omega
/-- The reference's ledger's cells. -/
def rl (g : Nat) (last : Int) : Array Value := #[.pointer (some ⟨g, 0, none⟩), .int .i64 last]

set_option maxRecDepth 20000 in
set_option maxHeartbeats 1000000 in
theorem ropen_dead (d : D) (g h : Nat) (w : World) (hD : Rk w g h d) (hdd : d.dead = true) :
    Calls Try.prog 12 #[.pointer (some ⟨g, 0, none⟩)] w fun e w' => e = .returned (.tuple #[.pointer none, .int .i64 17]) ∧ w' = w := by
  obtain ⟨sp, cap, hr, ho, rfl⟩ := hD
  have c5 : w.cell? ⟨g, 5, none⟩ = some (.bool true) := by rw [← hdd]; exact hr.cell
  go_enter Try.func12, Try.ntmps12
  go_wp2
  go_ret2
  exact ⟨rfl, rfl⟩

set_option maxRecDepth 20000 in
set_option maxHeartbeats 1000000 in
theorem ropen_any (d : D) (g h : Nat) (w : World) (hD : Rk w g h d) (hlen : d.bytes.length ≤ 16777216) (hby : By d.bytes) (hdd : d.dead = false) :
    Calls Try.prog 12 #[.pointer (some ⟨g, 0, none⟩)] w fun e w' => ∃ a, e = .returned (.tuple #[.pointer (some ⟨a, 0, none⟩), .int .i64 0]) ∧ w.heap.size ≤ a ∧ Row w' a 53 (rl g (grL d.bytes)) ∧ Below w.heap.size w w' := by
  obtain ⟨sp, cap, hr, ho, rfl⟩ := hD
  have lg := hr.lt
  have hbs := ho.bytes
  have hc2 : ∀ wx, Below w.heap.size w wx → wx.cell? ⟨g, 2, none⟩ = some (.slice sp d.bytes.length cap) ∧ Bytes wx sp d.bytes := fun wx hb => ⟨(hr.below hb lg).cell, hbs.below hb⟩
  have c5 : w.cell? ⟨g, 5, none⟩ = some (.bool false) := by rw [← hdd]; exact hr.cell
  obtain ⟨G, hG⟩ : ∃ G, grL d.bytes = G := ⟨_, rfl⟩
  have hstep := fun (b : List Int) => grL_step (b := b)
  have hshort := fun (b : List Int) => grL_short (b := b)
  have hno := num_off d.bytes
  have hrg := fun i k => beO_range hby (i := i) (k := k)
  have hgb := fun k => gi_by hby k
  rw [hG]
  generalize d.bytes = bs at *
  clear hr ho hdd
  go_enter Try.func12, Try.ntmps12
  go_wp2
  clear c5
  go_loopw [5] (fun i wr => ∃ (j : Nat) (m : Int), i = .int .i64 (j : Int) ∧ j ≤ bs.length ∧ 0 ≤ m ∧ m < 4294967296 ∧ mx m (grL (bs.drop j)) = G ∧ Row wr w.heap.size 53 (rl g m) ∧ Below w.heap.size w wr) (fun i _ => bs.length - (intOf i).toNat)
  case atStart =>
    refine ⟨0, 0, rfl, by omega, by omega, by omega, ?_, Row.new w 53 _, (Below.refl _ _).alloc (Nat.le_refl _) _⟩
    have := grL_range hby
    simp only [List.drop_zero, hG]
    rw [hG] at this
    unfold mx; split <;> omega
  case round =>
    obtain ⟨j, m, rfl, hj, hm0, hm1, hmG, hrow, hbel⟩ := hrel
    obtain ⟨k2, kb⟩ := hc2 _ hbel
    by_cases h8 : j + 8 ≤ bs.length
    · have h8' : decide ((j : Int) + 8 ≤ bs.length) = true := by simp; omega
      rw [hstep _ (by simp; omega), hno, List.drop_drop] at hmG
      obtain ⟨b, o, rfl, _⟩ := kb (by omega)
      have hmG' : Hid (_ = G) := hmG
      clear hmG hno hstep hshort hG
      go_wp2
      go_loopw [6, 7, 8] (fun n ok kk wq => ∃ (k : Nat), n = .int .i64 (beO bs j k) ∧ ok = .bool (okO bs j k) ∧ kk = .int .i64 (k : Int) ∧ k ≤ 4 ∧ Row wq w.heap.size 53 (rl g m) ∧ Below w.heap.size w wq) (fun _ _ kk _ => 4 - (intOf kk).toNat)
      case atStart => exact ⟨0, rfl, rfl, rfl, by omega, hrow, hbel⟩
      case round =>
        obtain ⟨k, rfl, rfl, rfl, hk, hrow, hbel⟩ := hrel
        by_cases hk4 : k < 4
        · have q1 := hrg j k h8 (by omega)
          have q2 := hgb (j + k) (by omega)
          have q3 := hgb (j + 4 + k) (by omega)
          have hor := or_byte (beO bs j k) (gi bs (j + k)) q1.1 (by omega) q2.1 q2.2
          have hnot := not_u8 q2
          have hn1 : beO bs j (k + 1) = beO bs j k * 256 + gi bs (j + k) := rfl
          have ho1 : okO bs j (k + 1) = (okO bs j k && (gi bs (j + 4 + k) == 255 - gi bs (j + k))) := rfl
          obtain ⟨k3, kb3⟩ := hc2 _ hbel
          obtain ⟨_, _, e9, hcell⟩ := kb3 (by omega)
          cases e9
          have z1 := hcell (j + k) (by omega)
          have z2 := hcell (j + 4 + k) (by omega)
          clear hcell kb3
          have hn2 : Hid (_ = _) := hn1
          obtain ⟨K2, hK2⟩ : ∃ K2, okO bs j (k + 1) = K2 := ⟨_, rfl⟩
          rw [hK2] at ho1
          have hK3 : Hid (_ = _) := hK2
          have hfin : ∀ wq, Row wq w.heap.size 53 (rl g m) → Below w.heap.size w wq → ∃ k' : Nat, Value.int .i64 (beO bs j k * 256 + gi bs (j + k)) = .int .i64 (beO bs j k') ∧ Value.bool K2 = .bool (okO bs j k') ∧ Value.int .i64 ((k : Int) + 1) = .int .i64 (k' : Int) ∧ k' ≤ 4 ∧ Row wq w.heap.size 53 (rl g m) ∧ Below w.heap.size w wq := fun wq h1 h2 =>
            ⟨k + 1, by rw [hn1], by rw [hK2], by go_num, by omega, h1, h2⟩
          clear hn1 hK2 hn2 hK3
          generalize beO bs j k = N at *
          generalize okO bs j k = K at *
          generalize gi bs (j + k) = x at *
          generalize gi bs (j + 4 + k) = y at *
          cases K with
          | true =>
            have ho2 : (y == 255 - x) = K2 := by rw [ho1]; rfl
            clear ho1
            go_upto_region 12 with fail
            go_quiet (fail)
            go_wp2
            go_roundw
            case rel => exact hfin _ (hrow.drewN _) (below_drewN hbel _)
            case measure => simp [intOf]; omega
          | false =>
            obtain rfl : K2 = false := by rw [ho1]; rfl
            clear ho1
            go_upto_region 12 with fail
            go_quiet (fail)
            go_wp2
            go_roundw
            case rel => exact hfin _ (hrow.drewN _) (below_drewN hbel _)
            case measure => simp [intOf]; omega
        · obtain rfl : k = 4 := by omega
          have hrow1 : wr.cell? ⟨w.heap.size, 1, none⟩ = some (.int .i64 m) := hrow.cell
          have hfz := hrow.frozen (j := 1)
          have hmG : mx m (mx (if okO bs j 4 = true then beO bs j 4 else 0) (grL (bs.drop (j + 8)))) = G := hmG'
          have q1 := hrg j 4 h8 (by omega)
          clear hmG'
          cases hok : okO bs j 4 with
          | true =>
            rw [hok, if_pos rfl, ← mx_assoc] at hmG
            generalize beO bs j 4 = N at *
            have r2 := hrow.set0 1 (.int .i64 (mx m N))
            go_wp2
            go_roundw
            case rel => exact ⟨j + 8, mx m N, by go_num, by omega, by unfold mx; split <;> omega, by unfold mx; split <;> omega, hmG, r2, hbel.setCell (by simp) _⟩
            case measure => simp [intOf]; omega
          | false =>
            have hgr := grL_range (by_drop hby (j + 8))
            have hmG2 : mx m (grL (bs.drop (j + 8))) = G := by
              rw [hok, if_neg (by decide)] at hmG
              rw [← hmG]
              unfold mx; repeat (first | split | omega)
            clear hmG
            go_wp2
            go_roundw
            case rel => exact ⟨j + 8, m, by go_num, by omega, hm0, hm1, hmG2, hrow, hbel⟩
            case measure => simp [intOf]; omega
    · have h8' : decide ((j : Int) + 8 ≤ bs.length) = false := by simp; omega
      rw [hshort _ (by simp; omega)] at hmG
      obtain rfl : m = G := by rw [← hmG]; unfold mx; split <;> omega
      go_wp2
      go_ret2
      exact ⟨_, rfl, Nat.le_refl _, hrow, hbel⟩
end Go.Proofs.Ytmfcildkkeeneaa
