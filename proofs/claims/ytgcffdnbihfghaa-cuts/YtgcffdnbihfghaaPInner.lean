/- ParseInner: any bytes. No old memory turns. -/
import Derived.Test.YtgcffdnbihfghaaRPInner
namespace Go.Proofs.Ytgcffdnbihfghaa
open Go Go.RowKit
theorem made_zer (m : Nat) : madeCells (Value.agg (v8 (zer 32))).cells m = v8 (zer m) := by
  apply Array.ext
  · simp [size_madeCells, v8, zer]
  · intro i h1 h2
    have h3 : i % 32 < 32 := Nat.mod_lt _ (by decide)
    have h4 : (v8 (zer 32))[i % 32]? = some (.int .u8 0) := by
      rw [v8_at (by rw [zer_len]; exact h3)]
      unfold gi zer
      rw [List.getD_eq_getElem?_getD, List.getElem?_replicate, if_pos h3]
      rfl
    have h5 : (v8 (zer 32))[i % 32]! = .int .u8 0 := by simp only [Array.getElem!_eq_getD, Array.getD_eq_getD_getElem?, h4, Option.getD_some]
    have h6 : (Value.agg (v8 (zer 32))).cells = v8 (zer 32) := rfl
    have h7 : (v8 (zer 32)).size = 32 := by rw [v8_size, zer_len]
    have h8 : i < m := by rw [size_madeCells] at h1; exact h1
    have h9 : (v8 (zer m))[i]? = some (.int .u8 0) := by
      rw [v8_at (by rw [zer_len]; exact h8)]
      unfold gi zer
      rw [List.getD_eq_getElem?_getD, List.getElem?_replicate, if_pos h8]
      rfl
    rw [Array.getElem?_eq_getElem h2] at h9
    have h10 := Option.some.inj h9
    rw [h10]
    simp only [madeCells, h6, h7, Array.getElem_map, Array.getElem_range]
    exact h5

theorem make_ids (n : Nat) (hn : n ≤ 1000) (wx : World) : (Instr.makeSlice 42 (.int .i64 (n : Int)) (.int .i64 (n : Int))).run Try.prog wx = .ok (.slice (some ⟨wx.heap.size, 0, none⟩) n n) (wx.alloc (.cells (v8 (zer (32 * n))) 23)) := by
  obtain ⟨i, hi, hz, h1, h2⟩ : ∃ i, Try.prog.info? 23 = some i ∧ i.zero = some (.agg (v8 (zer 32))) ∧ i.size = 32 ∧ i.bytes = 32 := by
    have hinfo : (Try.prog.info? 23).map (fun i => (i.zero, i.size, i.bytes)) = some (some (.agg (v8 (zer 32))), 32, 32) := by kernel_rfl
    cases hq : Try.prog.info? 23 with
    | none => simp [hq] at hinfo
    | some i => simp only [hq, Option.map_some, Option.some.injEq, Prod.mk.injEq] at hinfo; exact ⟨i, rfl, hinfo.1, hinfo.2.1, hinfo.2.2⟩
  rw [run_make wx 42 23 i (.agg (v8 (zer 32))) Try.underlying42 hi hz .i64 .i64 n n (by omega) (by omega) (by rw [h2]; omega) (by omega), made_zer, h1, Int.toNat_natCast, Nat.mul_comm n 32]
def LitI (w : World) (B : Nat) (s : Value) (n : Nat) (L : List Int) : Prop := ∃ b, s = .slice (some ⟨b, 0, none⟩) n n ∧ Row w b 23 (v8 L) ∧ B ≤ b
theorem LitI.alloc {w : World} {B n : Nat} {s : Value} {L : List Int} (h : LitI w B s n L) (o : Obj) : LitI (w.alloc o) B s n L := by
  obtain ⟨b, rfl, h, hb⟩ := h
  exact ⟨b, rfl, h.alloc o, hb⟩
theorem LitI.new (w : World) (B : Nat) (hB : B ≤ w.heap.size) (n : Nat) (L : List Int) (_ : True) : LitI (w.alloc (.cells (v8 L) 23)) B (.slice (some ⟨w.heap.size, 0, none⟩) n n) n L := ⟨_, rfl, Row.new _ _ _, hB⟩
/-- The first j ids of n, noughts behind. -/
def parZ (F : List Int) (n j : Nat) : List Int := F.take (32 * j) ++ zer (32 * (n - j))
theorem parZ_len {F : List Int} {n j : Nat} (hF : F.length = 32 * n) (hj : j ≤ n) : (parZ F n j).length = 32 * n := by simp [parZ, zer_len, hF]; omega
theorem parZ_zero (F : List Int) (n : Nat) : parZ F n 0 = zer (32 * n) := by simp [parZ]
theorem parZ_all {F : List Int} {n : Nat} (hF : F.length = 32 * n) : parZ F n n = F := by simp [parZ, zer, ← hF]
theorem parZ_next {F : List Int} {n j : Nat} (hF : F.length = 32 * n) (hj : j < n) : spl (parZ F n j) (j * 32) (cutF F j) = parZ F n (j + 1) := by
  have h1 : (F.take (32 * j)).length = j * 32 := by simp [hF]; omega
  have h2 := spl_mid (F.take (32 * j)) (cutF F j) (32 * (n - j))
  rw [h1, cutF_len hF hj] at h2
  unfold parZ zer
  rw [h2, take_cut, show 32 * (n - j) - 32 = 32 * (n - (j + 1)) by omega]
set_option maxRecDepth 20000 in
set_option maxHeartbeats 2000000 in
theorem parseI_any (b : List Int) (sp : Option Addr) (cap : Nat) (w0 : World) (hm : b.length ≤ 1000000) (hc : b.length ≤ cap) (hby : Bytes w0 sp b) (hy : By b) :
    Calls Try.prog 18 #[.slice sp b.length cap] w0 (ReadsI (qN b) (qErr b) (qF b) w0) := by
  by_cases hl : b.length < 2
  · have hE : qErr b = 8 := by unfold qErr; rw [if_pos hl]
    obtain ⟨hN, hF⟩ := q_bad hE (by decide)
    rw [hE, hN, hF]
    clear hE hN hF
    generalize b.length = n at *
    go_enter Try.func18, Try.ntmps18
    go_wp2
    go_ret2
    exact ⟨none, 0, rfl, Bytes.nil _ _, rfl, Below.refl _ _⟩
  obtain ⟨p, o, rfl, hcl⟩ := hby (by omega)
  have c0 : w0.cell? ⟨p, o, none⟩ = some (.int .u8 (gi b 0)) := hcl 0 (by omega)
  have c1 := hcl 1 (by omega)
  have hp : p < w0.heap.size := block_lt_of_cell c0
  have q0 := gi_by hy 0 (by omega)
  have q1 := gi_by hy 1 (by omega)
  clear hcl
  by_cases h0 : gi b 0 = 110
  case neg =>
    have hE : qErr b = 11 := by unfold qErr; rw [if_neg hl, if_pos (.inl h0)]
    obtain ⟨hN, hF⟩ := q_bad hE (by decide)
    rw [hE, hN, hF]
    clear hE hN hF hby
    have h0b : (gi b 0 != 110) = true := by simpa using h0
    generalize b.length = n at *
    generalize gi b 0 = x0 at *
    generalize gi b 1 = x1 at *
    go_enter Try.func18, Try.ntmps18
    go_wp2
    go_ret2
    exact ⟨none, 0, rfl, Bytes.nil _ _, rfl, Below.refl _ _⟩
  rw [h0] at c0
  by_cases h1 : gi b 1 < 1
  · have hE : qErr b = 11 := by unfold qErr; rw [if_neg hl, if_pos (.inr (.inl h1))]
    have hx : gi b 1 = 0 := by omega
    rw [hx] at c1
    obtain ⟨hN, hF⟩ := q_bad hE (by decide)
    rw [hE, hN, hF]
    clear hE hN hF hby h0
    generalize b.length = n at *
    go_enter Try.func18, Try.ntmps18
    go_wp2
    go_ret2
    exact ⟨none, 0, rfl, Bytes.nil _ _, rfl, Below.refl _ _⟩
  have hx0 : (gi b 1 == 0) = false := by simp; omega
  by_cases h2 : 8 < gi b 1
  · have hE : qErr b = 11 := by unfold qErr; rw [if_neg hl, if_pos (.inr (.inr h2))]
    obtain ⟨hN, hF⟩ := q_bad hE (by decide)
    rw [hE, hN, hF]
    clear hE hN hF hby h0
    generalize b.length = n at *
    generalize gi b 1 = x1 at *
    go_enter Try.func18, Try.ntmps18
    go_wp2
    go_ret2
    exact ⟨none, 0, rfl, Bytes.nil _ _, rfl, Below.refl _ _⟩
  have hends := fun wx => ends_any (some ⟨p, o, none⟩) b.length cap (2 + gi b 1 * 32) wx hm (by omega) (by omega)
  by_cases h3 : (b.length : Int) < 2 + 32 * gi b 1
  · have hE : qErr b = 8 := by unfold qErr; rw [if_neg hl, if_neg (by omega), if_pos h3]
    rw [if_pos (by omega)] at hends
    obtain ⟨hN, hF⟩ := q_bad hE (by decide)
    rw [hE, hN, hF]
    clear hE hN hF hby h0
    generalize b.length = n at *
    generalize gi b 1 = x1 at *
    go_enter Try.func18, Try.ntmps18
    go_wp2_with (go_at_call 39; (with_reducible refine Calls.mono (hends _) ?_); rintro e w2 ⟨rfl, hw⟩; obtain rfl := hw.symm; clear hw)
    go_ret2
    exact ⟨none, 0, rfl, Bytes.nil _ _, rfl, Below.refl _ _⟩
  by_cases h4 : 2 + 32 * gi b 1 < (b.length : Int)
  · have hE : qErr b = 9 := by unfold qErr; rw [if_neg hl, if_neg (by omega), if_neg h3, if_pos h4]
    rw [if_neg (by omega), if_pos (by omega)] at hends
    obtain ⟨hN, hF⟩ := q_bad hE (by decide)
    rw [hE, hN, hF]
    clear hE hN hF hby h0
    generalize b.length = n at *
    generalize gi b 1 = x1 at *
    go_enter Try.func18, Try.ntmps18
    go_wp2_with (go_at_call 39; (with_reducible refine Calls.mono (hends _) ?_); rintro e w2 ⟨rfl, hw⟩; obtain rfl := hw.symm; clear hw)
    go_ret2
    exact ⟨none, 0, rfl, Bytes.nil _ _, rfl, Below.refl _ _⟩
  rw [if_neg (by omega), if_neg (by omega)] at hends
  have hE : qErr b = 0 := by unfold qErr; rw [if_neg hl, if_neg (by omega), if_neg h3, if_neg h4]
  obtain ⟨n, hn, n1, n8, hlen, _, hN, hF, hFl⟩ := q_ok hE
  have hbF : Bytes w0 (some ⟨p, o + 2, none⟩) (qF b) := by rw [hF]; exact hby.drop 2
  rw [hE, hN]
  rw [hn] at c1 h1 h2 h3 h4 q1 hx0 hends
  generalize qF b = F at *
  rw [hlen] at hc hends ⊢
  clear hE hN hF hby h0 hl hm hlen hy q0 hn
  obtain ⟨len, hln⟩ : ∃ len, 2 + 32 * n = len := ⟨_, rfl⟩
  rw [hln] at hc hends ⊢
  have hln' : Hid (2 + 32 * n = len) := ⟨hln⟩
  have e1 : (len : Int) = 2 + 32 * (n : Int) := by omega
  have e2 : 34 ≤ len := by omega
  have hmk := fun wx => make_ids n (by omega) wx
  clear hln h3 h4
  obtain ⟨B, hB⟩ : ∃ B, w0.heap.size = B := ⟨_, rfl⟩
  have hsB : ∀ {w : World}, Below B w0 w → B ≤ w.heap.size := fun h => by have := h.size; omega
  go_enter Try.func18, Try.ntmps18
  go_upto_region 9 with (go_at_call 39; (with_reducible refine Calls.mono (hends _) ?_); rintro e w2 ⟨rfl, hw⟩; obtain rfl := hw.symm; clear hw)
  refine region_invFA  (by kernel_rfl) (by kernel_rfl) (fun a0 listed a w => ∃ s6 s7 s36 s37 s38 s39, a = (Act.put (Act.put (Act.put (Act.put (Act.put (Act.put a0 (some 6) s6) (some 7) s7) (some 36) s36) (some 37) s37) (some 38) s38) (some 39) s39) ∧ Below B w0 w ∧ (listed.getD 0 false = true → s36 = .int .i64 (n : Int)) ∧ (listed.getD 1 false = true → LitI w B s37 n (zer (32 * n))) ∧ (listed.getD 2 false = true → s38 = .slice (some ⟨p, o, none⟩) len cap) ∧ (listed.getD 3 false = true → s39 = .slice (some ⟨p, o + 2, none⟩) (len - 2) (cap - 2)) ∧ (listed.getD 4 false = true → LitI w B s6 n (zer (32 * n))) ∧ (listed.getD 5 false = true → s7 = .slice (some ⟨p, o + 2, none⟩) (len - 2) (cap - 2))) ?_ ?_ ?_
  all_goals simp only [Act.put, List.setIfInBounds_toArray, List.set_cons_succ, List.set_cons_zero]
  · exact ⟨_, _, _, _, _, _, rfl, (Below.refl B _).drew, (fun h => absurd h (by rw [getD_replicate_false]; decide)), (fun h => absurd h (by rw [getD_replicate_false]; decide)), (fun h => absurd h (by rw [getD_replicate_false]; decide)), (fun h => absurd h (by rw [getD_replicate_false]; decide)), (fun h => absurd h (by rw [getD_replicate_false]; decide)), (fun h => absurd h (by rw [getD_replicate_false]; decide))⟩
  · intro listed a w i o hls hJ hin ho hi hall hcl
    obtain ⟨s6, s7, s36, s37, s38, s39, rfl, hbW, c0, c1, c2, c3, c4, c5⟩ := hJ
    replace hin : i < 6 := hin
    rcases (by omega : i = 0 ∨ i = 1 ∨ i = 2 ∨ i = 3 ∨ i = 4 ∨ i = 5) with rfl | rfl | rfl | rfl | rfl | rfl
    · obtain rfl := Option.some.inj ho
      have hsz : 0 < listed.size := by rw [hls]; decide
      have hbw := hbW
      refine inv_val (w' := w) (.int .i64 (n : Int)) rfl rfl rfl ?_
      exact ⟨s6, s7, (.int .i64 (n : Int)), s37, s38, s39, rfl, hbw, (fun _ => rfl), (fun h => c1 (bit_ne h (by decide))), (fun h => c2 (bit_ne h (by decide))), (fun h => c3 (bit_ne h (by decide))), (fun h => c4 (bit_ne h (by decide))), (fun h => c5 (bit_ne h (by decide)))⟩
    · obtain rfl := Option.some.inj ho
      have hsz : 1 < listed.size := by rw [hls]; decide
      have hdep0 : listed.getD 0 false = true := hall ⟨0, .data⟩ (by simp) (by rfl)
      obtain rfl := c0 hdep0
      have hbw : Below B w0 (w.alloc (.cells (v8 (zer (32 * n))) 23)) := hbW.alloc (hsB hbW) _
      refine inv_val (.slice (some ⟨w.heap.size, 0, none⟩) n n) (w' := w.alloc (.cells (v8 (zer (32 * n))) 23)) rfl rfl (by have hq := hmk w; go_simp) ?_
      exact ⟨s6, s7, (.int .i64 (n : Int)), (.slice (some ⟨w.heap.size, 0, none⟩) n n), s38, s39, rfl, hbw, (fun h => c0 (bit_ne h (by decide))), (fun _ => LitI.new w B (hsB hbW) n (zer (32 * n)) trivial), (fun h => c2 (bit_ne h (by decide))), (fun h => c3 (bit_ne h (by decide))), (fun h => (c4 (bit_ne h (by decide))).alloc _), (fun h => c5 (bit_ne h (by decide)))⟩
    · obtain rfl := Option.some.inj ho
      have hsz : 2 < listed.size := by rw [hls]; decide
      have hbw := hbW
      refine inv_val (w' := w) (.slice (some ⟨p, o, none⟩) len cap) rfl rfl rfl ?_
      exact ⟨s6, s7, s36, s37, (.slice (some ⟨p, o, none⟩) len cap), s39, rfl, hbw, (fun h => c0 (bit_ne h (by decide))), (fun h => c1 (bit_ne h (by decide))), (fun _ => rfl), (fun h => c3 (bit_ne h (by decide))), (fun h => c4 (bit_ne h (by decide))), (fun h => c5 (bit_ne h (by decide)))⟩
    · obtain rfl := Option.some.inj ho
      have hsz : 3 < listed.size := by rw [hls]; decide
      have hdep2 : listed.getD 2 false = true := hall ⟨2, .data⟩ (by simp) (by rfl)
      obtain rfl := c2 hdep2
      have hbw := hbW
      refine inv_val (w' := w) (.slice (some ⟨p, o + 2, none⟩) (len - 2) (cap - 2)) rfl rfl (by go_simp; omega) ?_
      exact ⟨s6, s7, s36, s37, (.slice (some ⟨p, o, none⟩) len cap), (.slice (some ⟨p, o + 2, none⟩) (len - 2) (cap - 2)), rfl, hbw, (fun h => c0 (bit_ne h (by decide))), (fun h => c1 (bit_ne h (by decide))), (fun h => c2 (bit_ne h (by decide))), (fun _ => rfl), (fun h => c4 (bit_ne h (by decide))), (fun h => c5 (bit_ne h (by decide)))⟩
    · obtain rfl := Option.some.inj ho
      have hsz : 4 < listed.size := by rw [hls]; decide
      have hdep1 : listed.getD 1 false = true := hall ⟨1, .data⟩ (by simp) (by rfl)
      obtain ⟨b1, rfl, r1, hb1⟩ := c1 hdep1
      have hbw := hbW
      refine inv_val (w' := w) (.slice (some ⟨b1, 0, none⟩) n n) rfl rfl rfl ?_
      exact ⟨(.slice (some ⟨b1, 0, none⟩) n n), s7, s36, (.slice (some ⟨b1, 0, none⟩) n n), s38, s39, rfl, hbw, (fun h => c0 (bit_ne h (by decide))), (fun h => c1 (bit_ne h (by decide))), (fun h => c2 (bit_ne h (by decide))), (fun h => c3 (bit_ne h (by decide))), (fun _ => ⟨b1, rfl, r1, hb1⟩), (fun h => c5 (bit_ne h (by decide)))⟩
    · obtain rfl := Option.some.inj ho
      have hsz : 5 < listed.size := by rw [hls]; decide
      have hdep3 : listed.getD 3 false = true := hall ⟨3, .data⟩ (by simp) (by rfl)
      obtain rfl := c3 hdep3
      have hbw := hbW
      refine inv_val (w' := w) (.slice (some ⟨p, o + 2, none⟩) (len - 2) (cap - 2)) rfl rfl rfl ?_
      exact ⟨s6, (.slice (some ⟨p, o + 2, none⟩) (len - 2) (cap - 2)), s36, s37, s38, (.slice (some ⟨p, o + 2, none⟩) (len - 2) (cap - 2)), rfl, hbw, (fun h => c0 (bit_ne h (by decide))), (fun h => c1 (bit_ne h (by decide))), (fun h => c2 (bit_ne h (by decide))), (fun h => c3 (bit_ne h (by decide))), (fun h => c4 (bit_ne h (by decide))), (fun _ => rfl)⟩
  · intro listed a w hall hJ
    obtain ⟨s6, s7, s36, s37, s38, s39, rfl, hbW, c0, c1, c2, c3, c4, c5⟩ := hJ
    obtain rfl := c0 (hall 0 (by decide))
    obtain ⟨b1, rfl, r1, hb1⟩ := c1 (hall 1 (by decide))
    obtain rfl := c2 (hall 2 (by decide))
    obtain rfl := c3 (hall 3 (by decide))
    obtain ⟨b4, rfl, r4, hb4⟩ := c4 (hall 4 (by decide))
    obtain rfl := c5 (hall 5 (by decide))
    have b6 : Below w0.heap.size w0 w := by rw [hB]; exact hbW
    have hgB := hb4
    clear hbW hall r1 hb1 c0 c1 c2 c3 c4 c5 hmk
    generalize b4 = g at *
    go_wp2
    go_loopw [7, 42] (fun r i wr => ∃ j : Nat, j ≤ n ∧ i = .int .i64 j ∧ (j < n → r = .slice (some ⟨p, o + 2 + j * 32, none⟩) (len - 2 - j * 32) (cap - 2 - j * 32)) ∧ Row wr g 23 (v8 (parZ F n j)) ∧ Below w0.heap.size w0 wr) (fun _ i _ => n - (intOf i).toNat)
    case atStart => exact ⟨0, by omega, rfl, fun _ => (by simp), by rw [parZ_zero]; exact r4, b6⟩
    case round =>
      obtain ⟨j, hj, rfl, hrs, r2, b2⟩ := hrel
      by_cases hjn : j < n
      · have hrs1 := hrs hjn
        have hcl := cutF_len hFl hjn
        have hbc := bytes_cut (hbF.below b2) j
        have hnext := parZ_next hFl hjn
        have hpl := parZ_len hFl hj
        have hl1 := hln'.out
        obtain ⟨off, hoff⟩ : ∃ off, o + 2 + j * 32 = off := ⟨_, rfl⟩
        obtain ⟨ln, hln⟩ : ∃ ln, len - 2 - j * 32 = ln := ⟨_, rfl⟩
        obtain ⟨cp, hcp⟩ : ∃ cp, cap - 2 - j * 32 = cp := ⟨_, rfl⟩
        rw [hoff, hln, hcp] at hrs1
        rw [hoff] at hbc
        subst hrs1
        have h32 : 32 ≤ ln := by omega
        have h32c : ln ≤ cp := by omega
        have hfit : j * 32 + 32 ≤ (parZ F n j).length := by omega
        have hrel : j + 1 < n → cp ≠ 32 ∧ o + 2 + (j + 1) * 32 = off + 32 ∧ len - 2 - (j + 1) * 32 = ln - 32 ∧ cap - 2 - (j + 1) * 32 = cp - 32 := fun h => by omega
        have hrel' : Hid (j + 1 < n → cp ≠ 32 ∧ o + 2 + (j + 1) * 32 = off + 32 ∧ len - 2 - (j + 1) * 32 = ln - 32 ∧ cap - 2 - (j + 1) * 32 = cp - 32) := ⟨hrel⟩
        clear hoff hln hcp hrs hrel hl1 hpl
        generalize hPK : parZ F n (j + 1) = PK at *
        have hPK' : Hid (parZ F n (j + 1) = PK) := ⟨hPK⟩
        clear hPK
        generalize parZ F n j = PJ at *
        generalize cutF F j = C at *
        have r4 := r2.setRow (v8 PK)
        have b4 := below_setRow (g := g) b2 (by omega) (v8 PK)
        by_cases hlast : cp = 32
        · subst hlast
          obtain rfl : ln = 32 := by omega
          go_upto_region 13 with fail
          refine wp_region_lit ?_
          iterate 18 go_step
          refine copy8 (w := wr) (.tmp 49) (.tmp 50) 27 27 (by rfl) (by rfl) 5 Try.underlying27 (by kernel_rfl) (some ⟨g, j * 32, none⟩) (some ⟨p, off, none⟩) 32 32 32 32 (by rfl) (by rfl) g (j * 32) PJ 23 r2 C (by rw [hcl]; omega) (fun _ => rfl) hbc (by rw [hcl]; exact hfit) ?_
          rw [hnext, hcl]
          go_wp2
          go_roundw
          case rel => exact ⟨j + 1, by omega, by go_num, fun h => absurd rfl (hrel'.out h).1, by rw [hPK'.out]; exact r4, b4⟩
          case measure => simp [intOf]; omega
        · go_upto_region 13 with fail
          refine wp_region_lit ?_
          iterate 18 go_step
          refine copy8 (w := wr) (.tmp 49) (.tmp 50) 27 27 (by rfl) (by rfl) 5 Try.underlying27 (by kernel_rfl) (some ⟨g, j * 32, none⟩) (some ⟨p, off, none⟩) 32 32 ln cp (by rfl) (by rfl) g (j * 32) PJ 23 r2 C (by rw [hcl]; omega) (fun _ => rfl) hbc (by rw [hcl]; exact hfit) ?_
          rw [hnext, hcl]
          go_wp2
          go_roundw
          case rel => exact ⟨j + 1, by omega, by go_num, fun h => by obtain ⟨_, h1, h2, h3⟩ := hrel'.out h; rw [h1, h2, h3], by rw [hPK'.out]; exact r4, b4⟩
          case measure => simp [intOf]; omega
      · obtain rfl : j = n := by omega
        rw [parZ_all hFl] at r2
        go_wp2
        go_ret2
        exact ⟨some ⟨g, 0, none⟩, j, rfl, r2.bytes, hFl, b2⟩
end Go.Proofs.Ytgcffdnbihfghaa
