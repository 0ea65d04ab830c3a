/- BlobInodes returns true and turns no old memory, for any inode, numbers and bytes. No condition. -/
import Derived.Test.YtgcffdnbihfghaaEqN
namespace Go.Proofs.Ytgcffdnbihfghaa
open Go Go.RowKit
theorem outN_facts {n : Nd} (ht : n.top.length = 32) (hb : By n.top) : By (outN n) ∧ (outN n).length ≤ 39 := by
  unfold outN
  by_cases h : errN n = 0
  · rw [if_pos h]; exact ⟨by_encN h hb, by rw [encN_len ht]; exact Nat.le_refl _⟩
  · rw [if_neg h]; exact ⟨fun x hx => by simp at hx, by simp⟩
set_option maxRecDepth 20000 in
set_option maxHeartbeats 2000000 in
theorem inodes_walk (n : Nd) (how : Int) (al bl raw : List Int) (pa ps pr : Option Addr) (ca cs cr : Nat) (cut : Int) (w : World) (ht : n.top.length = 32) (hbt : By n.top)
    (ha : Ints w pa al) (hma : al.length ≤ 9223372036854775807) (hs : Bytes w ps bl) (ys : By bl) (hms : bl.length ≤ 9223372036854775807) (hcr : pr = none → cr = 0 ∧ raw.length = 0) (hr : Bytes w pr raw) (yr : By raw) (hmr : raw.length ≤ 9223372036854775807) (kr : raw.length ≤ cr) :
    Calls Try.prog 3 #[.agg (nc n), .int .i64 how, .slice pa al.length ca, .slice ps bl.length cs, .int .i64 cut, .slice pr raw.length cr] w fun e w' => e = .returned (.bool true) ∧ Below w.heap.size w w' := by
  have hb : Below w.heap.size w (w.alloc (.cells (nc n) 25)) := (Below.refl _ _).alloc (Nat.le_refl _) _
  have hrow : Row (w.alloc (.cells (nc n) 25)) w.heap.size 25 (nc n) := Row.new _ _ _
  by_cases hl : raw.length > 200
  · go_enter Try.func3, Try.ntmps3
    go_wp2_with (go_at_call 9; (with_reducible refine Calls.mono (known_any _) ?_); rintro e w1 ⟨rfl, hb1⟩)
    go_ret
    exact ⟨rfl, hb.trans (hb1.mono hb.size)⟩
  have hino := fun wx => ino_any n how wx ht
  have hmt := inoN_len how ht
  have hmb := inoN_by how hbt
  have hiN : (Try.prog.info? 25).map (·.size) = some (nc n).size := info25 ht
  generalize inoN n how = m at *
  have hiM : (Try.prog.info? 25).map (·.size) = some (nc m).size := info25 hmt
  have hnm : (nc n).size = (nc m).size := by rw [nc_size ht, nc_size hmt]
  have hin := fun wx => inode_any m wx hmt
  have hrin := fun wx => rinode_any m wx hmt
  obtain ⟨yL, lL⟩ := outN_facts hmt hmb
  have hend := fun h => pNd_enc (n := m) h hmt hmb
  have hOo : errN m = 0 → outN m = encN m := outN_ok
  generalize outN m = L at *
  generalize encN m = EN at *
  generalize errN m = E at *
  unfold Gives at hin hrin
  obtain ⟨na, hna⟩ : ∃ na, al.length = na := ⟨_, rfl⟩
  obtain ⟨ns, hns⟩ : ∃ ns, bl.length = ns := ⟨_, rfl⟩
  obtain ⟨nr, hnr⟩ : ∃ nr, raw.length = nr := ⟨_, rfl⟩
  obtain ⟨nL, hnL⟩ : ∃ nL, L.length = nL := ⟨_, rfl⟩
  rw [hna] at hma ⊢
  rw [hns] at hms ⊢
  rw [hnr] at hmr kr hcr hl ⊢
  rw [hnL] at hin hrin lL
  obtain ⟨g0, hg0⟩ : ∃ g0, w.heap.size = g0 := ⟨_, rfl⟩
  go_enter Try.func3, Try.ntmps3
  go_upto_region 6 with (first | (go_at_call 9; (with_reducible refine Calls.mono (known_any _) ?_); rintro e w1 ⟨rfl, hb1⟩; have q1 := hrow.below hb1 hrow.lt) | (refine wpList_load_row (by rfl) 25 (.tmp 6) (by rfl) g0 (by rfl) 25 (nc n) (0, 0) _ (by rw [← hg0]; exact q1) Try.underlying25 rfl hiN ?_) | (go_at_call 10; (with_reducible refine Calls.mono (hino _) ?_); rintro e w2 ⟨rfl, hb2⟩; have q2 : Row w2 g0 25 (nc n) := by rw [← hg0]; exact q1.below hb2 q1.lt) | (refine store_row0 25 (.tmp 6) (.tmp 30) (by rfl) (by rfl) (by rfl) g0 (nc m) (by rfl) (by rfl) 25 _ q2 hiM hnm (nc_one _) ?_))
  have b2 := (hb.trans (hb1.mono hb.size))
  have b3 := b2.trans (hb2.mono b2.size)
  have q3 := q2.setRow (nc m)
  have b4 := below_setRow (g := g0) b3 (by omega) (nc m)
  generalize w2.setRow g0 (nc m) = w3 at q3 b4 ⊢
  clear b2 b3 q2 q1 hb1 hb2 hb hrow hino
  go_upto_region 8 with (first | (refine wpList_load_row (by rfl) 25 (.tmp 6) (by rfl) g0 (by rfl) 25 (nc m) (0, 0) _ q3 Try.underlying25 rfl hiM ?_) | (go_at_call 11; (with_reducible refine Calls.mono (hin _) ?_); rintro e w4 ⟨sA, cA, rfl, oA, hb4⟩; have q4 := q3.below hb4 q3.lt; have b5 := b4.trans (hb4.mono b4.size)) | (refine wpList_load_row (by rfl) 25 (.tmp 6) (by rfl) g0 (by rfl) 25 (nc m) (0, 0) _ q4 Try.underlying25 rfl hiM ?_) | (go_at_call 12; (with_reducible refine Calls.mono (hrin _) ?_); rintro e w5 ⟨sB, cB, rfl, oB, hb5⟩; have q5 := q4.below hb5 q4.lt; have b6 := b5.trans (hb5.mono b5.size)))
  have oA5 := oA.below hb5 (Nat.le_refl _)
  have hsA := run_str w5 sA nL cA L hnL oA5.bytes
  have hsB := run_str w5 sB nL cB L hnL oB.bytes
  have kB := (own8_take oB).2
  have nB := own_nil0 oB
  have hben := bend_any L al bl raw sB pa ps pr nL na ns nr cB ca cs cr cut w5 oB.bytes hnL nB yL (by omega) (ha.below b6 (Nat.le_refl _)) hna (by omega) (hs.below b6) hns ys (by omega) (hr.below b6) hnr hcr yr (by omega)
  clear oA oA5 hb4 hb5 q3 q4 b4 b5 hin hrin
  generalize hSL : strOfNums L = SL at hsA hsB
  clear hSL
  go_upto_region 11 with (go_at_call 13; (with_reducible refine Calls.mono hben ?_); rintro e w6 ⟨G, X, Y, px, py, cx, cy, hB⟩; obtain rfl := hB.said)
  have hat := fun i hi => hB.at oB.bytes hnL (by omega) yL (hr.below b6) hnr kr yr (by omega) i hi
  have hG := hB.row.lt
  have b7 := b6.trans (hB.below.mono b6.size)
  have q6 := q5.below hB.below q5.lt
  clear hben oB hB b6 q5 hsA hsB nB kB ha hs hr
  go_wp2
  go_loopw [18] (fun i wr => ∃ j : Nat, j ≤ 4 ∧ i = .int .i64 j ∧ Below w6.heap.size w6 wr) (fun i _ => 4 - (intOf i).toNat)
  case atStart => exact ⟨0, by omega, rfl, Below.refl _ _⟩
  case round =>
    obtain ⟨j, hj, rfl, hbr⟩ := hrel
    by_cases hj4 : j < 4
    · obtain ⟨sp, cap, Z, hc, hyZ, yZ, lZ, kZ, hZL⟩ := hat j hj4
      have hcr' : wr.cell? ⟨G, j, none⟩ = some (.slice sp Z.length cap) := by rw [hbr.cell (p := ⟨G, j, none⟩) hG]; exact hc
      have hyr := hyZ.below hbr
      have q7 := q6.below hbr q6.lt
      have hp := parse_any Z sp cap wr lZ kZ hyr yZ
      have hrp := fun wx (h : Below wr.heap.size wr wx) => rparse_any Z sp cap wx lZ kZ (hyr.below h) yZ
      have hpt := pNd_len Z
      have hq := fun wx => eq_inode (pNd Z) hpt wx
      have hqf := fun wx => eqf_inode (pNd Z) hpt wx
      have hqm := fun wx => eq_inode m hmt wx
      have hqmf := fun wx => eqf_inode m hmt wx
      have hend2 : j = 3 → E = 0 → pNd Z = m := fun h1 h2 => by
        rw [hZL h1, hOo h2]; exact (hend h2).1
      have hiZ : (Try.prog.info? 25).map (·.size) = some (nc (pNd Z)).size := info25 hpt
      have hoZ : (nc zeroN).size = (nc (pNd Z)).size := by rw [nc_size (n := pNd Z) hpt]; rfl
      unfold Reads at hp hrp
      clear hat hend hOo hZL hc hyZ hyr
      generalize pNd Z = P at *
      generalize pErr Z = PE at *
      generalize Z.length = lz at *
      go_upto_region 15 with (first | (go_at_call 14; (with_reducible refine Calls.mono hp ?_); rintro e w8 ⟨rfl, hb8⟩) | (refine store_row0 25 (.tmp 19) (.tmp 69) (by rfl) (by rfl) (by rfl) w8.heap.size (nc P) (by rfl) (by rfl) 25 _ (Row.new _ _ _) hiZ hoZ (nc_one _) ?_))
      have x1 : Row ((w8.alloc (.cells (nc zeroN) 25)).setRow w8.heap.size (nc P)) w8.heap.size 25 (nc P) := (Row.new _ _ _).setRow _
      have c1 : Below wr.heap.size wr ((w8.alloc (.cells (nc zeroN) 25)).setRow w8.heap.size (nc P)) := below_setRow (hb8.alloc hb8.size _) hb8.size _
      change Code.wp _ _ _ _ ((w8.alloc (.cells (nc zeroN) 25)).setRow w8.heap.size (nc P))
      obtain ⟨gx, hgx⟩ : ∃ gx, gx = w8.heap.size := ⟨_, rfl⟩
      rw [← hgx] at x1 c1 ⊢
      have hgx2 : wr.heap.size ≤ gx := by rw [hgx]; exact hb8.size
      try simp only [← hgx]
      generalize (w8.alloc (.cells (nc zeroN) 25)).setRow gx (nc P) = w9 at x1 c1 ⊢
      clear hb8 hp hgx
      have hc9 : w9.cell? ⟨G, j, none⟩ = some (.slice sp lz cap) := by rw [c1.cell (p := ⟨G, j, none⟩) (by have := hbr.size; simp only; omega)]; exact hcr'
      have hrp9 := hrp w9 c1
      have hx1 := x1.lt
      go_upto_region 16 with (first | (go_at_call 15; (with_reducible refine Calls.mono hrp9 ?_); rintro e w10 ⟨rfl, hb10⟩) | (refine store_row0 25 (.tmp 21) (.tmp 77) (by rfl) (by rfl) (by rfl) w10.heap.size (nc P) (by rfl) (by rfl) 25 _ (Row.new _ _ _) hiZ hoZ (nc_one _) ?_))
      have hs10 := hb10.size
      have y3 : Row ((w10.alloc (.cells (nc zeroN) 25)).setRow w10.heap.size (nc P)) w10.heap.size 25 (nc P) := (Row.new _ _ _).setRow _
      have x3 : Row ((w10.alloc (.cells (nc zeroN) 25)).setRow w10.heap.size (nc P)) gx 25 (nc P) := ((x1.below hb10 hx1).alloc _).setRowOther (by omega) _
      have c3 : Below wr.heap.size wr ((w10.alloc (.cells (nc zeroN) 25)).setRow w10.heap.size (nc P)) := below_setRow ((c1.trans (hb10.mono (by have := c1.size; omega))).alloc (by have := c1.size; omega) _) (by have := c1.size; omega) _
      change Code.wp _ _ _ _ ((w10.alloc (.cells (nc zeroN) 25)).setRow w10.heap.size (nc P))
      obtain ⟨gy, hgy⟩ : ∃ gy, gy = w10.heap.size := ⟨_, rfl⟩
      rw [← hgy] at x3 y3 c3 ⊢
      try simp only [← hgy]
      generalize (w10.alloc (.cells (nc zeroN) 25)).setRow gy (nc P) = w11 at x3 y3 c3 ⊢
      have q11 := q7.below c3 q7.lt
      clear hb10 hrp hrp9 hc9 hgy q7 x1 c1
      have hbr2 := hbr.trans (c3.mono hbr.size)
      by_cases h3 : j = 3
      · subst h3
        by_cases hE0 : E = 0
        · obtain rfl := hend2 rfl hE0
          have hEb : (E == 0) = true := by simpa using hE0
          clear hend2 hE0
          go_wp2_with (first | (refine load_rowW ?hw 25 (.tmp 19) (by rfl) gx (by rfl) 25 (nc P) (0, 0) _ x3 Try.underlying25 rfl hiZ ?_; (case hw => rfl)) | (refine load_rowW ?hw 25 (.tmp 21) (by rfl) gy (by rfl) 25 (nc P) (0, 0) _ y3 Try.underlying25 rfl hiZ ?_; (case hw => rfl)) | (refine load_rowW ?hw 25 (.tmp 6) (by rfl) g0 (by rfl) 25 (nc P) (0, 0) _ q11 Try.underlying25 rfl hiZ ?_; (case hw => rfl)))
          go_roundw
          case rel => exact ⟨4, by omega, by go_num, hbr2⟩
          case measure => simp [intOf]
        · have hEb : (E == 0) = false := by simpa using hE0
          clear hend2 hE0
          go_wp2_with (first | (refine load_rowW ?hw 25 (.tmp 19) (by rfl) gx (by rfl) 25 (nc P) (0, 0) _ x3 Try.underlying25 rfl hiZ ?_; (case hw => rfl)) | (refine load_rowW ?hw 25 (.tmp 21) (by rfl) gy (by rfl) 25 (nc P) (0, 0) _ y3 Try.underlying25 rfl hiZ ?_; (case hw => rfl)))
          go_roundw
          case rel => exact ⟨4, by omega, by go_num, hbr2⟩
          case measure => simp [intOf]
      · have h3b : ((j : Int) == 3) = false := by simp; omega
        clear hend2
        go_wp2_with (first | (refine load_rowW ?hw 25 (.tmp 19) (by rfl) gx (by rfl) 25 (nc P) (0, 0) _ x3 Try.underlying25 rfl hiZ ?_; (case hw => rfl)) | (refine load_rowW ?hw 25 (.tmp 21) (by rfl) gy (by rfl) 25 (nc P) (0, 0) _ y3 Try.underlying25 rfl hiZ ?_; (case hw => rfl)))
        go_roundw
        case rel => exact ⟨j + 1, by omega, by go_num, hbr2⟩
        case measure => simp [intOf]; omega
    · obtain rfl : j = 4 := by omega
      go_wp2
      go_ret
      exact ⟨rfl, b7.trans (hbr.mono b7.size)⟩
end Go.Proofs.Ytgcffdnbihfghaa
