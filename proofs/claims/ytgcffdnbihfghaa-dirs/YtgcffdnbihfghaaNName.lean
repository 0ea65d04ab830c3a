/- 'Name' makes of any numbers a text that is a name, of at most 49 bytes; it turns no old memory. -/
import Derived.Test.YtgcffdnbihfghaaKnown
import Derived.Test.YtgcffdnbihfghaaArg
import Derived.Test.YtgcffdnbihfghaaMem
import Derived.Test.YtgcffdnbihfghaaRuneMath
namespace Go.Proofs.Ytgcffdnbihfghaa
open Go.RowKit
theorem cat_data (a b : ByteArray) : (a ++ b).data.toList = a.data.toList ++ b.data.toList := by
  rw [ByteArray.data_append]; simp
theorem size_data (s : ByteArray) : s.data.toList.length = s.size := by simp
theorem ba_ext {a b : ByteArray} (h : a.data.toList = b.data.toList) : a = b := by
  cases a; cases b; simp only at h; congr 1; exact Array.toList_inj.1 h
set_option maxRecDepth 20000 in
theorem lwithin_any (a n : Int) (w : World) (hn : 0 < n) (hn2 : n ≤ 4611686018427387904) :
    Calls Try.prog 40 #[.int .i64 a, .int .i64 n] w fun e w' => e = .returned (.int .i64 (a % n)) ∧ w' = w := by
  have hne : (n == 0) = false := by simp; omega
  have hne' : n ≠ 0 := by omega
  have hlo : -n < a.tmod n := by
    have := Int.lt_tmod_of_pos a hn; omega
  by_cases h : a.tmod n < 0
  · have e := tmod_neg hn h
    go_enter Try.func40, Try.ntmps40
    go_wp2
    go_ret
    exact ⟨rfl, rfl⟩
  · have e := tmod_pos hn h
    rw [← e]
    go_enter Try.func40, Try.ntmps40
    go_wp2
    go_ret
    exact ⟨rfl, rfl⟩

def pcR : List Nat := [97, 98, 122, 65, 48, 46, 45, 32, 126, 233, 8364, 128512, 128]
def pcB (k : Nat) : ByteArray := ⟨(encL (pcR.getD k 0)).toArray⟩
def rawL (rs : List Nat) : List UInt8 := rs.flatMap encL
def rnOf (zs : List Int) : List Nat := zs.map fun z => pcR.getD (z % 13).toNat 0
def nmL (zs : List Int) : List UInt8 := if dots (rawL (rnOf (zs.take 12))) then rawL (rnOf (zs.take 12)) ++ [120] else rawL (rnOf (zs.take 12))
/-- The name that 'Name' makes. -/
def nm (zs : List Int) : ByteArray := ⟨(nmL zs).toArray⟩
theorem nm_data (zs : List Int) : (nm zs).data.toList = nmL zs := by simp [nm]
theorem pcR_ok : ∀ k, k < 13 → okR (pcR.getD k 0) ∧ bar (pcR.getD k 0) = false := by
  intro k hk
  have : ∀ k, k < 13 → (decide (pcR.getD k 0 < 55296) || decide (57344 ≤ pcR.getD k 0) && decide (pcR.getD k 0 ≤ 1114111)) = true ∧ bar (pcR.getD k 0) = false := by decide +kernel
  obtain ⟨h1, h2⟩ := this k hk
  refine ⟨?_, h2⟩
  simp only [Bool.or_eq_true, Bool.and_eq_true, decide_eq_true_eq] at h1
  exact h1
theorem mod13 (z : Int) : ∃ k : Nat, z % 13 = k ∧ k < 13 := by
  have h0 := Int.emod_nonneg z (show (13 : Int) ≠ 0 by decide)
  have h1 := Int.emod_lt_of_pos z (show (0 : Int) < 13 by decide)
  exact ⟨(z % 13).toNat, by omega, by omega⟩
theorem rn_ok (zs : List Int) : ∀ c ∈ rnOf zs, okR c ∧ bar c = false := by
  intro c hc
  obtain ⟨z, _, rfl⟩ := List.mem_map.1 hc
  obtain ⟨k, hk, h13⟩ := mod13 z
  rw [hk, Int.toNat_natCast]
  exact pcR_ok k h13
theorem chkL_raw : ∀ (rs : List Nat) (t : List UInt8) (f : Nat) (b : Bool) (n : Nat), (∀ c ∈ rs, okR c ∧ bar c = false) → chkL (f + rs.length) (rawL rs ++ t) b n = chkL f t b (n + rs.length)
  | [], t, f, b, n, _ => by simp [rawL]
  | c :: rs, t, f, b, n, h => by
    obtain ⟨h1, h2⟩ := h c (by simp)
    have ih := chkL_raw rs t f b (n + 1) (fun x hx => h x (by simp [hx]))
    have e : rawL (c :: rs) ++ t = encL c ++ (rawL rs ++ t) := by simp [rawL]
    rw [e, List.length_cons, ← Nat.add_assoc, chkL_enc _ c h1, h2, Bool.or_false, ih]
    congr 1; omega
theorem raw_len : ∀ (rs : List Nat), rs.length ≤ (rawL rs).length ∧ (rawL rs).length ≤ 4 * rs.length
  | [] => by simp [rawL]
  | c :: rs => by
    have ih := raw_len rs
    have h := enc_len c
    simp only [rawL, List.flatMap_cons, List.length_append, List.length_cons] at ih ⊢
    omega
theorem nm_chk (zs : List Int) : chk (nmL zs) = 0 := by
  have hr := rn_ok (zs.take 12)
  have hl : (rnOf (zs.take 12)).length ≤ 12 := by simp [rnOf]; omega
  unfold nmL
  generalize rnOf (zs.take 12) = rs at *
  cases hd : dots (rawL rs) with
  | false =>
    simp only [Bool.false_eq_true, if_false]
    unfold chk
    have h := raw_len rs
    obtain ⟨k, hk⟩ : ∃ k, (rawL rs).length = k + rs.length := ⟨(rawL rs).length - rs.length, by omega⟩
    have e := chkL_raw rs [] k false 0 hr
    rw [List.append_nil, chkL_end] at e
    rw [hd, hk, e]
    unfold endE
    simp; omega
  | true =>
    simp only [if_true]
    unfold dots at hd
    rw [Bool.or_eq_true, Bool.or_eq_true, beq_iff_eq, beq_iff_eq, beq_iff_eq] at hd
    rcases hd with (h | h) | h <;> rw [h] <;> decide +kernel
theorem nm_len (zs : List Int) : (nmL zs).length ≤ 49 := by
  have hl : (rnOf (zs.take 12)).length ≤ 12 := by simp [rnOf]; omega
  have h := raw_len (rnOf (zs.take 12))
  unfold nmL
  split
  · rw [List.length_append]; simp; omega
  · omega
theorem nm_size (zs : List Int) : (nm zs).size ≤ 49 := by rw [← size_data, nm_data]; exact nm_len zs

def pcV : Array Value := #[.string ⟨#[97]⟩, .string ⟨#[98]⟩, .string ⟨#[122]⟩, .string ⟨#[65]⟩, .string ⟨#[48]⟩, .string ⟨#[46]⟩, .string ⟨#[45]⟩, .string ⟨#[32]⟩, .string ⟨#[126]⟩, .string ⟨#[195, 169]⟩, .string ⟨#[226, 130, 172]⟩, .string ⟨#[240, 159, 152, 128]⟩, .string ⟨#[194, 128]⟩]
theorem pcV_at : ∀ k, k < 13 → pcV[k]? = some (.string (pcB k))
  | 0, _ | 1, _ | 2, _ | 3, _ | 4, _ | 5, _ | 6, _ | 7, _ | 8, _ | 9, _ | 10, _ | 11, _ | 12, _ => rfl
  | k + 13, h => by omega
theorem raw_snoc {zs : List Int} {i k : Nat} (h : i < zs.length) (hk : zs.getD i 0 % 13 = k) : rawL (rnOf (zs.take (i + 1))) = rawL (rnOf (zs.take i)) ++ (pcB k).data.toList := by
  have hz : zs.getD i 0 = zs[i] := by simp [List.getD_eq_getElem?_getD, h]
  rw [List.take_add_one, List.getElem?_eq_getElem h]
  simp only [Option.toList, rnOf, rawL, List.map_append, List.map_cons, List.map_nil, List.flatMap_append, List.flatMap_cons, List.flatMap_nil, List.append_nil]
  rw [← hz, hk, Int.toNat_natCast]
  simp [pcB]

set_option maxRecDepth 20000 in
set_option maxHeartbeats 1000000 in
theorem name_any (zs : List Int) (p : Option Addr) (c : Nat) (w : World) (hz : Ints w p zs) (hl : zs.length ≤ 9223372036854775807) :
    Calls Try.prog 21 #[.slice p zs.length c] w fun e w' => e = .returned (.string (nm zs)) ∧ Below w.heap.size w w' := by
  have hrow := Row.new w 9 pcV
  have hbel : Below w.heap.size w (w.alloc (.cells pcV 9)) := (Below.refl _ _).alloc (Nat.le_refl _) _
  go_enter Try.func21, Try.ntmps21
  go_wp2
  change Code.wp _ _ _ _ (w.alloc (.cells pcV 9))
  generalize w.alloc (.cells pcV 9) = w1 at *
  go_loop [4, 5] (fun s i => ∃ (k : Nat) (t : ByteArray), s = .string t ∧ i = .int .i64 k ∧ k ≤ zs.length ∧ k ≤ 12 ∧ t.data.toList = rawL (rnOf (zs.take k))) (fun _ i => 12 - (intOf i).toNat)
  case atStart => exact ⟨0, ByteArray.empty, rfl, rfl, by omega, by omega, rfl⟩
  case round =>
    obtain ⟨k, t, rfl, rfl, hk, h12, ht⟩ := hrel
    have hts : t.size ≤ 48 := by
      have := raw_len (rnOf (zs.take k))
      have h2 : (rnOf (zs.take k)).length ≤ 12 := by simp [rnOf]; omega
      rw [← size_data, ht]; omega
    by_cases hlt : k < zs.length ∧ k < 12
    · obtain ⟨h1, h2⟩ := hlt
      obtain ⟨b, o, rfl, hc⟩ := hz.below hbel (Nat.le_refl _) (by omega)
      have hcell := hc k h1
      obtain ⟨m, hm, h13⟩ := mod13 (gi zs k)
      have hsn := raw_snoc h1 hm
      rw [← ht] at hsn
      have hw10 := fun w1 => lwithin_any (gi zs k) 13 w1 (by decide) (by decide)
      rw [hm] at hw10
      have hpc := hrow.cell (j := m)
      rw [pcV_at m h13] at hpc
      have hps : (pcB m).size ≤ 4 := by
        have := (enc_len (pcR.getD m 0)).2
        rw [← size_data]; simpa [pcB] using this
      have q1 : decide ((k : Int) < (zs.length : Int)) = true := by simp; omega
      have q2 : decide ((k : Int) < 12) = true := by simp; omega
      generalize pcB m = pb at *
      generalize gi zs k = z at *
      clear hc hz ht
      go_wp2_with (go_at_call 40; (with_reducible refine Calls.mono (hw10 _) ?_); rintro e w2 ⟨rfl, hw⟩; obtain rfl := hw.symm; clear hw)
      go_round
      case rel => exact ⟨k + 1, _, rfl, by go_num, by omega, by omega, by rw [cat_data, hsn]⟩
      case measure => simp [intOf]; omega
    · have htk : zs.take k = zs.take 12 := by
        by_cases h12' : k = 12
        · rw [h12']
        · rw [List.take_of_length_le (by omega), List.take_of_length_le (by omega)]
      rw [htk] at ht
      have hnm : nm zs = if dots t.data.toList then t ++ ⟨#[120]⟩ else t := by
        apply ba_ext
        rw [nm_data]
        unfold nmL
        rw [← ht]
        split
        · rw [cat_data]
        · rfl
      have hd : dots t.data.toList = (t.toList == [] || t.toList == [46] || t.toList == [46, 46]) := by rw [ByteArray.toList_eq]; rfl
      rw [hd] at hnm
      have hor : k = zs.length ∨ k < zs.length ∧ k = 12 := by omega
      clear hlt ht hd htk
      generalize e1 : (t.toList == []) = p1 at *
      generalize e2 : (t.toList == [46]) = p2 at *
      generalize e3 : (t.toList == [46, 46]) = p3 at *
      rcases hor with h | ⟨h1, h⟩
      · have q1 : decide ((k : Int) < (zs.length : Int)) = false := by simp; omega
        have q2 : ¬ ((k : Int) < (zs.length : Int)) := by omega
        clear h hk
        cases p1 <;> cases p2 <;> cases p3
        all_goals
          simp only [Bool.or_true, Bool.or_false, if_true, Bool.false_eq_true, if_false] at hnm
          go_wp2
          all_goals
            go_ret
            exact ⟨by first | rfl | (rw [hnm]; rfl), hbel⟩
      · have q1 : decide ((k : Int) < (zs.length : Int)) = true := by simp; omega
        have q2 : ¬ ((k : Int) < 12) := by omega
        clear h hk h1
        cases p1 <;> cases p2 <;> cases p3
        all_goals
          simp only [Bool.or_true, Bool.or_false, if_true, Bool.false_eq_true, if_false] at hnm
          go_wp2
          all_goals
            go_ret
            exact ⟨by first | rfl | (rw [hnm]; rfl), hbel⟩
end Go.Proofs.Ytgcffdnbihfghaa
