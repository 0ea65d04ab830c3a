/- BlobInners returns true and turns no old memory, for any ids, numbers and bytes. No condition. -/
import Derived.Test.YtgcffdnbihfghaaPInner
import Derived.Test.YtgcffdnbihfghaaEqN
namespace Go.Proofs.Ytgcffdnbihfghaa
open Go Go.RowKit
theorem outI_facts {F : List Int} {n : Nat} (hF : F.length = 32 * n) (hb : By F) : By (outI F n) ∧ (outI F n).length ≤ 258 ∧ (errI n = 0 → qN (outI F n) = n ∧ qF (outI F n) = F) := by
  unfold outI
  by_cases h : errI n = 0
  · have hn : 1 ≤ n ∧ n ≤ 8 := by
      unfold errI at h
      by_cases h0 : n = 0
      · rw [if_pos h0] at h; exact absurd h (by decide)
      · rw [if_neg h0] at h
        by_cases h1 : 8 < n
        · rw [if_pos h1] at h; exact absurd h (by decide)
        · omega
    rw [if_pos h]
    have hl : ([110, (n : Int)] ++ F).length = 2 + 32 * n := by simp [hF]; omega
    have g0 : gi ([110, (n : Int)] ++ F) 0 = 110 := rfl
    have g1 : gi ([110, (n : Int)] ++ F) 1 = n := rfl
    have hq : qErr ([110, (n : Int)] ++ F) = 0 := by
      unfold qErr
      rw [g0, g1, hl, if_neg (by omega), if_neg (by omega), if_neg (by omega), if_neg (by omega)]
    refine ⟨By.append (fun x hx => ?_) hb, by omega, fun _ => ⟨?_, ?_⟩⟩
    · simp only [List.mem_cons, List.not_mem_nil, or_false] at hx
      rcases hx with rfl | rfl <;> omega
    · unfold qN; rw [if_pos hq, g1]; rfl
    · unfold qF; rw [if_pos hq]; rfl
  · rw [if_neg h]; exact ⟨fun x hx => by simp at hx, by simp, fun h1 => absurd h1 h⟩
theorem q_len (b : List Int) (_hm : b.length ≤ 1000000) : (qF b).length = 32 * qN b ∧ qN b ≤ 1000000 := by
  by_cases h : qErr b = 0
  · obtain ⟨n, _, _, h8, _, _, h1, h2, h3⟩ := q_ok h
    rw [h1]; exact ⟨h3, by omega⟩
  · obtain ⟨h1, h2⟩ := q_bad rfl h
    rw [h1, h2]; exact ⟨rfl, by omega⟩
set_option maxRecDepth 20000 in
set_option maxHeartbeats 2000000 in
theorem inners_walk (F al bl raw : List Int) (n : Nat) (pf pa ps pr : Option Addr) (cf ca cs cr : Nat) (cut : Int) (w : World) (hF : F.length = 32 * n) (hn : n ≤ 9223372036854775807) (hf : Bytes w pf F) (yf : By F)
    (ha : Ints w pa al) (hma : al.length ≤ 9223372036854775807) (hs : Bytes w ps bl) (ys : By bl) (hms : bl.length ≤ 9223372036854775807) (hcr : pr = none → cr = 0 ∧ raw.length = 0) (hr : Bytes w pr raw) (yr : By raw) (hmr : raw.length ≤ 9223372036854775807) (kr : raw.length ≤ cr) :
    Calls Try.prog 4 #[.slice pf n cf, .slice pa al.length ca, .slice ps bl.length cs, .int .i64 cut, .slice pr raw.length cr] w fun e w' => e = .returned (.bool true) ∧ Below w.heap.size w w' := by
  by_cases h20 : n > 20
  · go_enter Try.func4, Try.ntmps4
    go_wp2_with (go_at_call 9; (with_reducible refine Calls.mono (known_any _) ?_); rintro e w1 ⟨rfl, hb1⟩)
    go_ret
    exact ⟨rfl, hb1⟩
  by_cases hl : raw.length > 400
  · go_enter Try.func4, Try.ntmps4
    go_wp2_with (go_at_call 9; (with_reducible refine Calls.mono (known_any _) ?_); rintro e w1 ⟨rfl, hb1⟩)
    go_ret
    exact ⟨rfl, hb1⟩
  have hin := fun wx (h : Bytes wx pf F) => inner_any F n pf cf wx hF (by omega) h
  have hrin := fun wx (h : Bytes wx pf F) => rinner_any F n pf cf wx hF (by omega) h
  obtain ⟨yL, lL, hend⟩ := outI_facts hF yf
  generalize outI F n = L at *
  generalize errI n = E at *
  unfold Gives at hin hrin
  obtain ⟨na, hna⟩ : ∃ na, al.length = na := ⟨_, rfl⟩
  obtain ⟨ns, hns⟩ : ∃ ns, bl.length = ns := ⟨_, rfl⟩
  obtain ⟨nr, hnr⟩ : ∃ nr, raw.length = nr := ⟨_, rfl⟩
  obtain ⟨nL, hnL⟩ : ∃ nL, L.length = nL := ⟨_, rfl⟩
  rw [hna] at hma ⊢
  rw [hns] at hms ⊢
  rw [hnr] at hmr kr hcr hl ⊢
  rw [hnL] at hin hrin lL
  go_enter Try.func4, Try.ntmps4
  go_upto_region 7 with (first | (go_at_call 9; (with_reducible refine Calls.mono (known_any _) ?_); rintro e w1 ⟨rfl, hb1⟩; have hf1 := hf.below hb1) | (go_at_call 16; (with_reducible refine Calls.mono (hin _ hf1) ?_); rintro e w4 ⟨sA, cA, rfl, oA, hb4⟩; have b5 := hb1.trans (hb4.mono hb1.size); have hf4 := hf.below b5) | (go_at_call 17; (with_reducible refine Calls.mono (hrin _ hf4) ?_); rintro e w5 ⟨sB, cB, rfl, oB, hb5⟩; have b6 := b5.trans (hb5.mono b5.size)))
  have oA5 := oA.below hb5 (Nat.le_refl _)
  have hsA := run_str w5 sA nL cA L hnL oA5.bytes
  have hsB := run_str w5 sB nL cB L hnL oB.bytes
  have kB := (own8_take oB).2
  have nB := own_nil0 oB
  have hben := bend_any L al bl raw sB pa ps pr nL na ns nr cB ca cs cr cut w5 oB.bytes hnL nB yL (by omega) (ha.below b6 (Nat.le_refl _)) hna (by omega) (hs.below b6) hns ys (by omega) (hr.below b6) hnr hcr yr (by omega)
  clear oA oA5 hb4 hb5 b5 hin hrin hb1
  generalize hSL : strOfNums L = SL at hsA hsB
  clear hSL
  go_upto_region 10 with (go_at_call 13; (with_reducible refine Calls.mono hben ?_); rintro e w6 ⟨G, X, Y, px, py, cx, cy, hB⟩; obtain rfl := hB.said)
  have hat := fun i hi => hB.at oB.bytes hnL (by omega) yL (hr.below b6) hnr kr yr (by omega) i hi
  have hG := hB.row.lt
  have b7 := b6.trans (hB.below.mono b6.size)
  have hf6 := hf.below b7
  clear hben oB hB b6 hsA hsB nB kB ha hs hr hf
  go_wp2
  go_loopw [16] (fun i wr => ∃ j : Nat, j ≤ 4 ∧ i = .int .i64 j ∧ Below w6.heap.size w6 wr) (fun i _ => 4 - (intOf i).toNat)
  case atStart => exact ⟨0, by omega, rfl, Below.refl _ _⟩
  case round =>
    obtain ⟨j, hj, rfl, hbr⟩ := hrel
    by_cases hj4 : j < 4
    · obtain ⟨sp, cap, Z, hc, hyZ, yZ, lZ, kZ, hZL⟩ := hat j hj4
      have hcr' : wr.cell? ⟨G, j, none⟩ = some (.slice sp Z.length cap) := by rw [hbr.cell (p := ⟨G, j, none⟩) hG]; exact hc
      have hyr := hyZ.below hbr
      have hp := parseI_any Z sp cap wr lZ kZ hyr yZ
      have hrp := fun wx (h : Below wr.heap.size wr wx) => rparseI_any Z sp cap wx lZ kZ (hyr.below h) yZ
      obtain ⟨hql, hqn⟩ := q_len Z lZ
      have hids := fun wx p q c d (h1 : Bytes wx p (qF Z)) (h2 : Bytes wx q (qF Z)) => ids_any (qF Z) (qN Z) p q c d wx hql hqn h1 h2
      have hend2 : j = 3 → E = 0 → qN Z = n ∧ qF Z = F := fun h1 h2 => by
        rw [hZL h1]; exact hend h2
      unfold ReadsI at hp hrp
      clear hat hend hZL hc hyZ hyr
      generalize qF Z = P at *
      generalize qErr Z = PE at *
      generalize qN Z = m at *
      generalize Z.length = lz at *
      go_upto_region 14 with (go_at_call 18; (with_reducible refine Calls.mono hp ?_); rintro e w8 ⟨s8, c8, rfl, B8, _, hb8⟩)
      have hc8 : w8.cell? ⟨G, j, none⟩ = some (.slice sp lz cap) := by rw [hb8.cell (p := ⟨G, j, none⟩) (by have := hbr.size; simp only; omega)]; exact hcr'
      have hrp8 := hrp w8 hb8
      go_upto_region 15 with (go_at_call 19; (with_reducible refine Calls.mono hrp8 ?_); rintro e w9 ⟨s9, c9, rfl, B9, _, hb9⟩)
      have B89 := B8.below hb9
      have b9 := hb8.trans (hb9.mono hb8.size)
      have hids9 := hids w9 s8 s9 c8 c9 B89 B9
      clear hc8 hrp hrp8 hp B8 B9
      by_cases h3 : j = 3
      · subst h3
        by_cases hE0 : E = 0
        · obtain ⟨rfl, rfl⟩ := hend2 rfl hE0
          have hEb : (E == 0) = true := by simpa using hE0
          have hf9 := hf6.below (hbr.trans (b9.mono hbr.size))
          clear hend2 hE0
          go_wp2_with (first | (go_at_call 20; (with_reducible refine Calls.mono hids9 ?_); rintro e w10 ⟨rfl, hb10⟩; have B10 := B89.below hb10; have hf10 := hf9.below hb10; have b10 := b9.trans (hb10.mono b9.size); have hids10 := hids w10 s8 pf c8 cf B10 hf10) | (go_at_call 20; (with_reducible refine Calls.mono hids10 ?_); rintro e w11 ⟨rfl, hb11⟩))
          go_roundw
          case rel => exact ⟨4, by omega, by go_num, hbr.trans ((b10.trans (hb11.mono b10.size)).mono hbr.size)⟩
          case measure => simp [intOf]
        · have hEb : (E == 0) = false := by simpa using hE0
          clear hend2 hE0
          go_wp2_with (go_at_call 20; (with_reducible refine Calls.mono hids9 ?_); rintro e w10 ⟨rfl, hb10⟩)
          go_roundw
          case rel => exact ⟨4, by omega, by go_num, hbr.trans ((b9.trans (hb10.mono b9.size)).mono hbr.size)⟩
          case measure => simp [intOf]
      · have h3b : ((j : Int) == 3) = false := by simp; omega
        clear hend2
        go_wp2_with (go_at_call 20; (with_reducible refine Calls.mono hids9 ?_); rintro e w10 ⟨rfl, hb10⟩)
        go_roundw
        case rel => exact ⟨j + 1, by omega, by go_num, hbr.trans ((b9.trans (hb10.mono b9.size)).mono hbr.size)⟩
        case measure => simp [intOf]; omega
    · obtain rfl : j = 4 := by omega
      go_wp2
      go_ret
      exact ⟨rfl, b7.trans (hbr.mono b7.size)⟩
end Go.Proofs.Ytgcffdnbihfghaa
