/- LedgerTorn returns true and turns no old memory, for any three numbers: the walk. No condition. -/
import Derived.Test.YtmfcildkkeeneaaTorn
namespace Go.Proofs.Ytmfcildkkeeneaa
open Go Go.RowKit

set_option maxRecDepth 20000 in
set_option maxHeartbeats 2000000 in
theorem torn_walk (n keep more : Int) (w : World) :
    Calls Try.prog 5 #[.int .i64 n, .int .i64 keep, .int .i64 more] w fun e w' => e = .returned (.bool true) ∧ Below w.heap.size w w' := by
  have hw1 := fun w1 => within_any n 20 w1 (by decide) (by decide)
  have hw2 := fun w1 => within_any more 4 w1 (by decide) (by decide)
  obtain ⟨q, hq, hq20⟩ : ∃ q : Nat, n % 20 = q ∧ q < 20 := ⟨(n % 20).toNat, by omega, by omega⟩
  obtain ⟨c, hc, hc4⟩ : ∃ c : Nat, more % 4 = c ∧ c < 4 := ⟨(more % 4).toNat, by omega, by omega⟩
  rw [hq] at hw1
  rw [hc] at hw2
  clear hq hc
  have hnew := fun w1 hb => st_new 10000 w w1 hb (by decide)
  have hop := fun g w1 (s1 : St w w1 g g (dNew 10000)) => ls_open s1 (fun x hx => by cases hx) rfl 0 (grL_short (show 0 < 8 by decide))
  have hd0 := wl_new
  generalize dNew 10000 = d0 at *
  go_enter Try.func5, Try.ntmps5
  go_wp2_with (first | (go_at_call 7; (with_reducible refine Calls.mono (known_any _) ?_); rintro e w1 ⟨rfl, hb1⟩) | (go_at_call 8; (with_reducible refine Calls.mono (hw1 _) ?_); rintro e w2 ⟨rfl, hw⟩; obtain rfl := hw.symm; clear hw) | (go_at_call 9; (with_reducible refine Calls.mono (hnew _ hb1) ?_); rintro e w3 ⟨g, rfl, s1⟩) | (go_at_call 11; (with_reducible refine Calls.mono (hop _ _ s1) ?_); rintro e w4 ⟨a, rfl, s2, _, _⟩))
  clear hnew hw1 hb1 hop s1
  go_loopw [11] (fun i wr => ∃ (j : Nat) (d : D) (h : Nat), i = .int .i64 ((j : Int) + 1) ∧ j ≤ q ∧ Ls w wr g h a d j ∧ Wl d j (2 * (j : Int)) j) (fun i _ => 20 - (intOf i).toNat)
  case atStart => exact ⟨0, d0, g, rfl, by omega, s2, hd0⟩
  case round =>
    obtain ⟨j, d, h, rfl, hj, s, wl⟩ := hrel
    clear s2 hd0
    by_cases hlt : j < q
    · obtain ⟨f1, f2⟩ := wl_next wl s.bs (by omega) (by omega)
      have ho := wl.ops
      have hn := ls_next s (by omega) 0 ((j : Int) + 1) ((j : Int) + 1) _ f1 rfl rfl rfl
      generalize nD d j = d2 at *
      have hle : decide ((j : Int) + 1 ≤ q) = true := by simp; omega
      have f3 : Wl d2 ((j + 1 : Nat) : Int) (2 * ((j + 1 : Nat) : Int)) (j + 1) := by
        rw [show ((j + 1 : Nat) : Int) = (j : Int) + 1 by omega, show 2 * ((j : Int) + 1) = 2 * (j : Int) + 2 by omega]; exact f2
      clear f1 f2 wl
      go_wp2_with (first | (go_at_call 13; (with_reducible refine Calls.mono hn ?_); rintro e w5 ⟨rfl, h5, s5⟩))
      go_roundw
      case rel => exact ⟨j + 1, d2, h5, by go_num, by omega, by simpa using s5, f3⟩
      case measure => simp [intOf]; omega
    · obtain rfl : j = q := by omega
      have hle : decide ((j : Int) + 1 ≤ j) = false := by simp; omega
      have hops := wl.ops
      obtain ⟨t1, t2⟩ := torn_next wl (by omega) (by omega)
      obtain ⟨k, hk8, k1, k2, k3⟩ := torn_crash wl s.bs (by omega) keep
      have k4 := torn_pad wl s.bs (by omega) k hk8
      have hlen := wl.len
      have hst := ls_stop s 2 (by decide) _ rfl
      have hnx := fun w1 (s1 : Ls w w1 g h a { d with left := lmax 2 } j) => ls_next s1 (by show d.ops < _; omega) 17 0 j _ t1 t2 (by rw [if_neg (by decide)]) (by rw [if_neg (by decide)])
      have hcr := fun w1 h1 (s1 : Ls w w1 g h1 a { d with bytes := d.bytes ++ recL ((j : Int) + 1), left := 1, dead := true, ops := d.ops + 1 } j) => ls_crash s1 keep k _ (by rw [k1]) k2
      obtain ⟨G, hG⟩ : ∃ G : Int, (if k = 8 then (j : Int) + 1 else j) = G := ⟨_, rfl⟩
      have hwt : Wt { d with bytes := d.bytes ++ (recL ((j : Int) + 1)).take k, syn := d.bytes.length + k, left := 0, dead := false, ops := d.ops + 1 } G 50 (j + 1) := by
        refine ⟨rfl, rfl, wl.room, ?_, ?_, by show 0 ≤ d.ops + 1 ∧ d.ops + 1 ≤ 50; omega⟩
        · show (d.bytes ++ (recL ((j : Int) + 1)).take k).length ≤ _
          rw [List.length_append, List.length_take, recL_len]; omega
        · refine Int.le_trans k4 ?_
          rw [← hG]; split <;> omega
      rw [hG] at k3
      have hop2 := fun w1 h1 (s1 : Ls w w1 g h1 a { d with bytes := d.bytes ++ (recL ((j : Int) + 1)).take k, syn := d.bytes.length + k, left := 0, dead := false, ops := d.ops + 1 } j) => ls_open s1.st s1.bs rfl G k3
      clear t1 t2 k1 k2 k3 k4 wl hlen
      generalize ({ d with bytes := d.bytes ++ (recL ((j : Int) + 1)).take k, syn := d.bytes.length + k, left := 0, dead := false, ops := d.ops + 1 } : D) = d4 at *
      generalize ({ d with bytes := d.bytes ++ recL ((j : Int) + 1), left := 1, dead := true, ops := d.ops + 1 } : D) = d3 at *
      generalize ({ d with left := lmax 2 } : D) = d2 at *
      have hla := fun w1 h1 a1 l1 (s1 : Ls w w1 g h1 a1 d4 l1) => ls_last s1
      go_upto_region 20 with (first | (go_at_call 15; (with_reducible refine Calls.mono hst ?_); rintro e w5 ⟨rfl, s5⟩) | (go_at_call 13; (with_reducible refine Calls.mono (hnx _ s5) ?_); rintro e w6 ⟨rfl, h6, s6⟩) | (go_at_call 17; (with_reducible refine Calls.mono (hcr _ _ s6) ?_); rintro e w7 ⟨rfl, s7⟩) | (go_at_call 11; (with_reducible refine Calls.mono (hop2 _ _ s7) ?_); rintro e w8 ⟨a2, rfl, s8, hb8, _⟩; have s87 := s7.later hb8) | (go_at_call 21; (with_reducible refine Calls.mono (hla _ _ _ _ s87) ?_); rintro e w9 ⟨rfl, _, hb9⟩; have s9 := s8.later hb9))
      have hs9 := s9.st.below
      clear hnx hcr hop2 hst hb8 hb9 s87 s7 s6 s5 s8 s hops
      have hkk : ((k : Int) == 8) = decide (k = 8) := by
        by_cases h8 : k = 8
        · subst h8; rfl
        · rw [decide_eq_false h8]; simp; omega
      by_cases h8 : k = 8
      · subst h8
        have hG8 : (j : Int) + 1 = G := by simpa using hG
        subst hG8
        clear hG hkk
        have hGb : 0 ≤ (j : Int) + 1 ∧ (j : Int) + 1 ≤ 20 := by omega
        go_upto_region 26 with (go_at_call 21; (with_reducible refine Calls.mono (hla _ _ _ _ s9) ?_); rintro e w10 ⟨rfl, s10, _⟩)
        have hs10 := s10.st.below
        have hbs := s10.bs
        clear hla s9 hs9
        obtain ⟨nj, hnj, hnj2⟩ : ∃ nj, j + 1 = nj ∧ nj ≤ 20 := ⟨_, rfl, by omega⟩
        rw [hnj] at hwt
        clear hnj
        generalize ((j : Int) + 1) = G at *
        go_loopw [20] (fun i wr => ∃ (m : Nat) (d : D) (h : Nat), i = .int .i64 ((m : Int) + 1) ∧ m ≤ c + 1 ∧ Ls w wr g h a2 d (G + m) ∧ Wt d (G + m) (50 + 2 * (m : Int)) (nj + m) ∧ (m = 0 ∨ (grL d.bytes = G + m ∧ d.bytes.length % 8 = 0))) (fun i _ => 20 - (intOf i).toNat)
        case atStart => exact ⟨0, d4, h6, rfl, by omega, by simpa using s10, by simpa using hwt, .inl rfl⟩
        case round =>
          obtain ⟨m, d, h, rfl, hm, s, wt, hg⟩ := hrel
          clear s10 hwt hbs
          by_cases hlt : m < c + 1
          · obtain ⟨f1, f2, f3, f4⟩ := wt_next wt s.bs (by omega) (by omega)
            have ho := wt.ops
            have hn := ls_next s (by omega) 0 (G + ((m : Int) + 1)) (G + ((m + 1 : Nat) : Int)) _ f1 rfl (by rw [if_pos rfl]; omega) (by rw [if_pos rfl]; omega)
            have e1 : G + (m : Int) + 1 = G + ((m + 1 : Nat) : Int) := by omega
            have e2 : 50 + 2 * (m : Int) + 2 = 50 + 2 * ((m + 1 : Nat) : Int) := by omega
            rw [e1, e2] at f2
            rw [e1] at f3
            generalize nD d (G + m) = d5 at *
            have hle : decide ((m : Int) + 1 ≤ 1 + (c : Int)) = true := by simp; omega
            clear f1 wt e1 e2 hg
            go_wp2_with (first | (go_at_call 8; (with_reducible refine Calls.mono (hw2 _) ?_); rintro e w2 ⟨rfl, hw⟩; obtain rfl := hw.symm; clear hw) | (go_at_call 13; (with_reducible refine Calls.mono hn ?_); rintro e w5 ⟨rfl, h5, s5⟩))
            go_roundw
            case rel => exact ⟨m + 1, d5, h5, by go_num, by omega, s5, f2, .inr ⟨f3, f4⟩⟩
            case measure => simp [intOf]; omega
          · obtain rfl : m = c + 1 := by omega
            have hle : decide (((c + 1 : Nat) : Int) + 1 ≤ 1 + (c : Int)) = false := by simp; omega
            obtain ⟨g1, g2⟩ : grL d.bytes = G + ((c + 1 : Nat) : Int) ∧ d.bytes.length % 8 = 0 := by
              rcases hg with h0 | h0
              · omega
              · exact h0
            have hop3 := ls_open s.st s.bs wt.dead (G + 1 + (c : Int)) (by rw [g1]; omega)
            have hla3 := fun w1 a1 l1 (s1 : Ls w w1 g h a1 d l1) => ls_last s1
            have hby3 := fun w1 a1 l1 (s1 : Ls w w1 g h a1 d l1) => st_bytes s1.st d.bytes d.bytes.length rfl rfl
            have hmod : ((d.bytes.length : Int)).tmod 8 = 0 := by rw [Int.tmod_eq_emod_of_nonneg (by omega)]; omega
            generalize d.bytes.length = lb at *
            clear hg wt
            go_wp2_with (first | (go_at_call 8; (with_reducible refine Calls.mono (hw2 _) ?_); rintro e w2 ⟨rfl, hw⟩; obtain rfl := hw.symm; clear hw) | (go_at_call 11; (with_reducible refine Calls.mono hop3 ?_); rintro e w11 ⟨a3, rfl, s11, hb11, _⟩) | (go_at_call 21; (with_reducible refine Calls.mono (hla3 _ _ _ s11) ?_); rintro e w12 ⟨rfl, s12, _⟩) | (go_at_call 22; (with_reducible refine Calls.mono (hby3 _ _ _ s12) ?_); rintro e w13 ⟨b13, rfl, _, _, s13, _⟩))
            go_ret
            exact ⟨rfl, s13.below⟩
      · have hG8 : (j : Int) = G := by simpa [h8] using hG
        subst hG8
        rw [decide_eq_false h8] at hkk
        have hkz : ¬ ((k : Int) = 8) := by omega
        clear hG
        have hGb : 0 ≤ (j : Int) ∧ (j : Int) ≤ 20 := by omega
        go_upto_region 26 with (go_at_call 21; (with_reducible refine Calls.mono (hla _ _ _ _ s9) ?_); rintro e w10 ⟨rfl, s10, _⟩)
        have hs10 := s10.st.below
        have hbs := s10.bs
        clear hla s9 hs9
        obtain ⟨nj, hnj, hnj2⟩ : ∃ nj, j + 1 = nj ∧ nj ≤ 20 := ⟨_, rfl, by omega⟩
        rw [hnj] at hwt
        clear hnj
        generalize (j : Int) = G at *
        go_loopw [20] (fun i wr => ∃ (m : Nat) (d : D) (h : Nat), i = .int .i64 ((m : Int) + 1) ∧ m ≤ c + 1 ∧ Ls w wr g h a2 d (G + m) ∧ Wt d (G + m) (50 + 2 * (m : Int)) (nj + m) ∧ (m = 0 ∨ (grL d.bytes = G + m ∧ d.bytes.length % 8 = 0))) (fun i _ => 20 - (intOf i).toNat)
        case atStart => exact ⟨0, d4, h6, rfl, by omega, by simpa using s10, by simpa using hwt, .inl rfl⟩
        case round =>
          obtain ⟨m, d, h, rfl, hm, s, wt, hg⟩ := hrel
          clear s10 hwt hbs
          by_cases hlt : m < c + 1
          · obtain ⟨f1, f2, f3, f4⟩ := wt_next wt s.bs (by omega) (by omega)
            have ho := wt.ops
            have hn := ls_next s (by omega) 0 (G + ((m : Int) + 1)) (G + ((m + 1 : Nat) : Int)) _ f1 rfl (by rw [if_pos rfl]; omega) (by rw [if_pos rfl]; omega)
            have e1 : G + (m : Int) + 1 = G + ((m + 1 : Nat) : Int) := by omega
            have e2 : 50 + 2 * (m : Int) + 2 = 50 + 2 * ((m + 1 : Nat) : Int) := by omega
            rw [e1, e2] at f2
            rw [e1] at f3
            generalize nD d (G + m) = d5 at *
            have hle : decide ((m : Int) + 1 ≤ 1 + (c : Int)) = true := by simp; omega
            clear f1 wt e1 e2 hg
            go_wp2_with (first | (go_at_call 8; (with_reducible refine Calls.mono (hw2 _) ?_); rintro e w2 ⟨rfl, hw⟩; obtain rfl := hw.symm; clear hw) | (go_at_call 13; (with_reducible refine Calls.mono hn ?_); rintro e w5 ⟨rfl, h5, s5⟩))
            go_roundw
            case rel => exact ⟨m + 1, d5, h5, by go_num, by omega, s5, f2, .inr ⟨f3, f4⟩⟩
            case measure => simp [intOf]; omega
          · obtain rfl : m = c + 1 := by omega
            have hle : decide (((c + 1 : Nat) : Int) + 1 ≤ 1 + (c : Int)) = false := by simp; omega
            obtain ⟨g1, g2⟩ : grL d.bytes = G + ((c + 1 : Nat) : Int) ∧ d.bytes.length % 8 = 0 := by
              rcases hg with h0 | h0
              · omega
              · exact h0
            have hop3 := ls_open s.st s.bs wt.dead (G + 1 + (c : Int)) (by rw [g1]; omega)
            have hla3 := fun w1 a1 l1 (s1 : Ls w w1 g h a1 d l1) => ls_last s1
            have hby3 := fun w1 a1 l1 (s1 : Ls w w1 g h a1 d l1) => st_bytes s1.st d.bytes d.bytes.length rfl rfl
            have hmod : ((d.bytes.length : Int)).tmod 8 = 0 := by rw [Int.tmod_eq_emod_of_nonneg (by omega)]; omega
            generalize d.bytes.length = lb at *
            clear hg wt
            go_wp2_with (first | (go_at_call 8; (with_reducible refine Calls.mono (hw2 _) ?_); rintro e w2 ⟨rfl, hw⟩; obtain rfl := hw.symm; clear hw) | (go_at_call 11; (with_reducible refine Calls.mono hop3 ?_); rintro e w11 ⟨a3, rfl, s11, hb11, _⟩) | (go_at_call 21; (with_reducible refine Calls.mono (hla3 _ _ _ s11) ?_); rintro e w12 ⟨rfl, s12, _⟩) | (go_at_call 22; (with_reducible refine Calls.mono (hby3 _ _ _ s12) ?_); rintro e w13 ⟨b13, rfl, _, _, s13, _⟩))
            go_ret
            exact ⟨rfl, s13.below⟩
end Go.Proofs.Ytmfcildkkeeneaa
