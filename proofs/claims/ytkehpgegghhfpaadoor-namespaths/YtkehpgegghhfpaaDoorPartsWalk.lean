/- NamesParts returns true and turns no old memory, for any rows of numbers, where MaxLen holds some number. -/
import Derived.Test.YtkehpgegghhfpaaDoorKnown
import Derived.Test.YtkehpgegghhfpaaDoorPartsMath
import Derived.Test.YtkehpgegghhfpaaDoorOwn
import Derived.Test.YtkehpgegghhfpaaDoorArgs
namespace Go.Proofs.YtkehpgegghhfpaaDoor
open Go.RowKit

theorem split_only (s : ByteArray) (E : Int) (w : World) (hs : s.size < 4294967281) (hm : MaxOk w) (hE : splE s.data.toList = E) :
    Calls Tryd.prog 15 #[.string s] w fun e w' => ∃ (p : Option Addr) (l c : Nat), e = .returned (.tuple #[.slice p l c, .int .i64 E]) ∧ Below w.heap.size w w' := by
  refine (split_any s w hs hm).mono ?_
  rintro e w' ⟨p, c, zs, rfl, h1, h2, h3, h4⟩
  exact ⟨p, _, c, by rw [hE], h4⟩
theorem nms_take {zss : List (List Int)} {k : Nat} (h : k < zss.length) : nms (zss.take (k + 1)) = nms (zss.take k) ++ [nm (zss.getD k [])] := by
  rw [List.take_add_one, List.getElem?_eq_getElem h]
  simp only [nms, List.map_append, Option.toList, List.map_cons, List.map_nil, List.getD_eq_getElem?_getD, List.getElem?_eq_getElem h, Option.getD_some]

set_option maxRecDepth 20000 in
set_option maxHeartbeats 2000000 in
theorem parts_any (zss : List (List Int)) (zs : List Int) (p1 p2 : Option Addr) (c1 c2 : Nat) (w : World) (hm : MaxOk w) (hz2 : Ints2 w p1 zss) (hz : Ints w p2 zs) (hl2 : zss.length ≤ 9223372036854775807) (hl : zs.length ≤ 9223372036854775807) :
    Calls Tryd.prog 7 #[.slice p1 zss.length c1, .slice p2 zs.length c2] w fun e w' => e = .returned (.bool true) ∧ Below w.heap.size w w' := by
  go_enter Tryd.func7, Tryd.ntmps7
  go_wp2_with (first | (go_at_call 8; (with_reducible refine Calls.mono (known_any _ hm) ?_); rintro e w0 ⟨rfl, hb0⟩))
  go_loopw [5, 6] (fun v i wr => ∃ k : Nat, i = .int .i64 k ∧ k ≤ zss.length ∧ k ≤ 5 ∧ Own wr w.heap.size v (nms (zss.take k)) ∧ Below w.heap.size w wr) (fun _ i _ => 5 - (intOf i).toNat)
  case atStart => exact ⟨0, rfl, by omega, by omega, Own.nil _ _, hb0⟩
  case round =>
    obtain ⟨k, rfl, hk, h5, hown, hbe⟩ := hrel
    clear hb0
    by_cases hlt : k < zss.length ∧ k < 5
    · obtain ⟨hlt1, hlt2⟩ := hlt
      obtain ⟨b, o, rfl, hc⟩ := hz2.below hbe (Nat.le_refl _) (by omega)
      obtain ⟨q, cq, hcell, hin, hln⟩ := hc k hlt1
      have hnm := nms_take hlt1
      have hname := fun w' h => name_any (zss.getD k []) q cq w' h (by unfold maxLen at hln; exact hln)
      have hlen : (nms (zss.take k)).length = k := by simp [nms]; omega
      have q1 : decide ((k : Int) < (zss.length : Int)) = true := by simp; omega
      have q2 : decide ((k : Int) < 5) = true := by simp; omega
      generalize nm (zss.getD k []) = N at *
      generalize zss.getD k [] = z at *
      generalize nms (zss.take k) = ds at *
      clear hc hz2
      have hB0 := hbe.size
      go_wp2_with (first | (go_at_call 9; (with_reducible refine Calls.mono (hname _ hin) ?_); rintro e w1 ⟨rfl, hb1⟩; have hown1 := hown.below hb1; have hB1 := hbe.trans (hb1.mono hbe.size)) | (at_builtin; refine app_own ?hw _ _ rfl w.heap.size w.heap.size ?hB _ _ ds [N] rfl rfl (hown1.alloc _) (Own.new w1 w.heap.size [N] #[.string N] rfl hB1.size (show 1 ≤ maxLen by decide)) ?hl ?_; (case hw => rfl); (case hB => simp; exact Nat.le_succ_of_le hB1.size); (case hl => simp; omega)))
      intro v' w2 hown2 hgr
      have hB2 := (hB1.alloc hB1.size (.cells #[.string N] 9)).grown hgr (by simp; exact Nat.le_succ_of_le hB1.size) (fun j hj => (hown1.lt j hj).1)
      rw [← hnm] at hown2
      clear hgr
      go_wp2
      go_roundw
      case rel => exact ⟨k + 1, by go_num, by omega, by omega, hown2, hB2⟩
      case measure => simp [intOf]; omega
    · have htk : zss.take k = zss.take 5 := by
        by_cases h : k = 5
        · rw [h]
        · rw [List.take_of_length_le (by omega), List.take_of_length_le (by omega)]
      obtain ⟨yss, hyss⟩ : ∃ yss, yss = zss.take 5 := ⟨_, rfl⟩
      have hyl : yss.length = k := by rw [hyss, ← htk]; simp; omega
      rw [htk, ← hyss] at hown
      have hy5 : yss.length ≤ 5 := by omega
      have hall := nms_all yss hy5
      have hjs := jn_size yss (by omega)
      have hpp := parts_path yss zs hy5
      have hsz := nms_size yss
      have hns := nm_size zs
      have hxl : (nms yss).length = k := by simp [nms]; omega
      have hgood := nms_chk (yss ++ [zs])
      rw [← nms_more] at hgood
      have hlen : (Ls (nms yss ++ [nm zs])).length = k + 1 := by simp [Ls, hxl]
      have hname := fun w1 h => name_any zs p2 c2 w1 h hl
      clear htk hyss hz2
      obtain ⟨px, cx, rfl, hst, hpc⟩ := hown.strs
      have hjoin := fun w1 hx => join_jn (nms yss) px cx w1 hx hpc (fun x hx => by have := hsz x hx; omega)
      rw [hall] at hjoin
      generalize nm zs = N at *
      generalize jn (nms yss) = J at *
      generalize nms yss = xs at *
      clear hall hsz
      have hex : k = zss.length ∨ k < zss.length ∧ k = 5 := by omega
      clear hlt
      by_cases hk5 : k = 5
      · have hE := spl_many _ hgood (by omega)
        have q5 : ((xs.length : Int) == 5) = true := by rw [beq_iff_eq]; omega
        have q6 : decide ((k : Int) < 5) = false := by simp; omega
        cases hj47 : (J.toList == [47]) with
        | true =>
          have hd := hpp _ rfl
          rw [hj47, if_pos rfl] at hd
          have hsp := fun w1 h => split_only (⟨#[47]⟩ ++ N) 4 w1 (by rw [ByteArray.size_append]; have : (⟨#[47]⟩ : ByteArray).size = 1 := rfl; omega) h (by rw [hd]; exact hE)
          clear hpp hd hE hgood hlen hy5 hyl
          rcases hex with h | ⟨h, _⟩
          · have q7 : decide ((k : Int) < (zss.length : Int)) = false := by simp; omega
            clear h hk hk5 h5 hxl
            go_wp2_with (first | (go_at_call 13; (with_reducible refine Calls.mono (hjoin _ hst) ?_); rintro e w1 ⟨rfl, hb1⟩; have hown1 := hown.below hb1; have hB1 := hbe.trans (hb1.mono hbe.size)) | (go_at_call 9; (with_reducible refine Calls.mono (hname _ (hz.below hB1 (Nat.le_refl _))) ?_); rintro e w2 ⟨rfl, hb2⟩; have hown2 := hown1.below hb2; have hB2 := hB1.trans (hb2.mono hB1.size)) | (go_at_call 15; (with_reducible refine Calls.mono (hsp _ (hm.below hB2 (Nat.le_refl _))) ?_); rintro e w3 ⟨py, ly, cy, rfl, hb3⟩; have hown3 := hown2.below hb3; have hB3 := hB2.trans (hb3.mono hB2.size)))
            all_goals
              go_ret
              exact ⟨rfl, hB3⟩
          · have q7 : decide ((k : Int) < (zss.length : Int)) = true := by simp; omega
            clear h hk hk5 h5 hxl
            go_wp2_with (first | (go_at_call 13; (with_reducible refine Calls.mono (hjoin _ hst) ?_); rintro e w1 ⟨rfl, hb1⟩; have hown1 := hown.below hb1; have hB1 := hbe.trans (hb1.mono hbe.size)) | (go_at_call 9; (with_reducible refine Calls.mono (hname _ (hz.below hB1 (Nat.le_refl _))) ?_); rintro e w2 ⟨rfl, hb2⟩; have hown2 := hown1.below hb2; have hB2 := hB1.trans (hb2.mono hB1.size)) | (go_at_call 15; (with_reducible refine Calls.mono (hsp _ (hm.below hB2 (Nat.le_refl _))) ?_); rintro e w3 ⟨py, ly, cy, rfl, hb3⟩; have hown3 := hown2.below hb3; have hB3 := hB2.trans (hb3.mono hB2.size)))
            all_goals
              go_ret
              exact ⟨rfl, hB3⟩
        | false =>
          have hd := hpp _ rfl
          rw [hj47, if_neg (by simp)] at hd
          have hsp := fun w1 h => split_only (J ++ ⟨#[47]⟩ ++ N) 4 w1 (by rw [ByteArray.size_append, ByteArray.size_append]; have : (⟨#[47]⟩ : ByteArray).size = 1 := rfl; omega) h (by rw [hd]; exact hE)
          clear hpp hd hE hgood hlen hy5 hyl
          rcases hex with h | ⟨h, _⟩
          · have q7 : decide ((k : Int) < (zss.length : Int)) = false := by simp; omega
            clear h hk hk5 h5 hxl
            go_wp2_with (first | (go_at_call 13; (with_reducible refine Calls.mono (hjoin _ hst) ?_); rintro e w1 ⟨rfl, hb1⟩; have hown1 := hown.below hb1; have hB1 := hbe.trans (hb1.mono hbe.size)) | (go_at_call 9; (with_reducible refine Calls.mono (hname _ (hz.below hB1 (Nat.le_refl _))) ?_); rintro e w2 ⟨rfl, hb2⟩; have hown2 := hown1.below hb2; have hB2 := hB1.trans (hb2.mono hB1.size)) | (go_at_call 15; (with_reducible refine Calls.mono (hsp _ (hm.below hB2 (Nat.le_refl _))) ?_); rintro e w3 ⟨py, ly, cy, rfl, hb3⟩; have hown3 := hown2.below hb3; have hB3 := hB2.trans (hb3.mono hB2.size)))
            all_goals
              go_ret
              exact ⟨rfl, hB3⟩
          · have q7 : decide ((k : Int) < (zss.length : Int)) = true := by simp; omega
            clear h hk hk5 h5 hxl
            go_wp2_with (first | (go_at_call 13; (with_reducible refine Calls.mono (hjoin _ hst) ?_); rintro e w1 ⟨rfl, hb1⟩; have hown1 := hown.below hb1; have hB1 := hbe.trans (hb1.mono hbe.size)) | (go_at_call 9; (with_reducible refine Calls.mono (hname _ (hz.below hB1 (Nat.le_refl _))) ?_); rintro e w2 ⟨rfl, hb2⟩; have hown2 := hown1.below hb2; have hB2 := hB1.trans (hb2.mono hB1.size)) | (go_at_call 15; (with_reducible refine Calls.mono (hsp _ (hm.below hB2 (Nat.le_refl _))) ?_); rintro e w3 ⟨py, ly, cy, rfl, hb3⟩; have hown3 := hown2.below hb3; have hB3 := hB2.trans (hb3.mono hB2.size)))
            all_goals
              go_ret
              exact ⟨rfl, hB3⟩
      · have hall2 : allE (Ls (xs ++ [N])) = 0 := by
          unfold allE
          rw [if_neg (by omega)]
          exact firstE_of hgood
        obtain ⟨hE, hL⟩ := spl_path hall2
        have q5 : ((xs.length : Int) == 5) = false := by rw [beq_eq_false_iff_ne]; omega
        have q7 : decide ((k : Int) < (zss.length : Int)) = false := by simp; omega
        have q8 : ¬ ((k : Int) < (zss.length : Int)) := by omega
        have hsame := fun p q c d w1 hx hy => same_any (xs ++ [N]) (xs ++ [N]) p q c d w1 hx hy (by simp; omega) (by simp; omega)
        rw [decide_eq_true (rfl : xs ++ [N] = xs ++ [N])] at hsame
        simp only [List.length_append, List.length_cons, List.length_nil, Nat.zero_add] at hsame
        have hxn : xs.length ≤ 5 := by omega
        cases hj47 : (J.toList == [47]) with
        | true =>
          have hd := hpp _ rfl
          rw [hj47, if_pos rfl] at hd
          have hsp := fun w1 h => split_of (⟨#[47]⟩ ++ N) (xs ++ [N]) 0 w1 (by rw [ByteArray.size_append]; have : (⟨#[47]⟩ : ByteArray).size = 1 := rfl; omega) h (by rw [hd]; exact hE) (by rw [hd]; exact hL)
          clear hpp hd hE hL hgood hlen hy5 hyl hall2 hex hk hk5 h5 hxl
          go_wp2_with (first | (go_at_call 13; (with_reducible refine Calls.mono (hjoin _ hst) ?_); rintro e w1 ⟨rfl, hb1⟩; have hown1 := hown.below hb1; have hB1 := hbe.trans (hb1.mono hbe.size)) | (go_at_call 9; (with_reducible refine Calls.mono (hname _ (hz.below hB1 (Nat.le_refl _))) ?_); rintro e w2 ⟨rfl, hb2⟩; have hown2 := hown1.below hb2; have hB2 := hB1.trans (hb2.mono hB1.size)) | (go_at_call 15; (with_reducible refine Calls.mono (hsp _ (hm.below hB2 (Nat.le_refl _))) ?_); rintro e w3 ⟨py, cy, rfl, hsy, hcy, hb3⟩; have hown3 := hown2.below hb3; have hB3 := hB2.trans (hb3.mono hB2.size)) | (at_builtin; refine app_own ?hw _ _ rfl w3.heap.size w3.heap.size ?hB _ _ xs [N] rfl rfl (hown5.alloc _) (Own.new w5 w3.heap.size [N] #[.string N] rfl hB5.size (show 1 ≤ maxLen by decide)) ?hl ?_; (case hw => rfl); (case hB => simp; exact Nat.le_succ_of_le hB5.size); (case hl => simp; omega); intro v6 w6 hown6 hgr6; have hB6 := (hB5.alloc hB5.size (.cells #[.string N] 9)).grown hgr6 (by simp; exact Nat.le_succ_of_le hB5.size) (fun j hj => (hown5.lt j hj).1); obtain ⟨pz, cz, rfl, hsz6, hcz⟩ := hown6.strs; clear hgr6) | (at_builtin; refine app_own ?hw _ _ rfl w3.heap.size w.heap.size ?hB _ _ [] xs rfl rfl (Own.new w3 w3.heap.size [] #[] rfl (Nat.le_refl _) (Nat.zero_le _)) (hown3.alloc _) ?hl ?_; (case hw => rfl); (case hB => simp); (case hl => simp; omega); intro v5 w5 hown5 hgr5; have hB5 := ((Below.refl w3.heap.size w3).alloc (Nat.le_refl _) (.cells #[] 9)).grown hgr5 (by simp) (fun j hj => Nat.le_of_eq (Option.some.inj hj)); clear hgr5) | (go_at_call 16; (with_reducible refine Calls.mono (hsame _ _ _ _ _ (hsy.below hB6 (Nat.le_refl _)) hsz6) ?_); rintro e w7 ⟨rfl, hb7⟩))
          all_goals
            go_ret
            exact ⟨rfl, hB3.trans ((hB6.trans (hb7.mono hB6.size)).mono hB3.size)⟩
        | false =>
          have hd := hpp _ rfl
          rw [hj47, if_neg (by simp)] at hd
          have hsp := fun w1 h => split_of (J ++ ⟨#[47]⟩ ++ N) (xs ++ [N]) 0 w1 (by rw [ByteArray.size_append, ByteArray.size_append]; have : (⟨#[47]⟩ : ByteArray).size = 1 := rfl; omega) h (by rw [hd]; exact hE) (by rw [hd]; exact hL)
          clear hpp hd hE hL hgood hlen hy5 hyl hall2 hex hk hk5 h5 hxl
          go_wp2_with (first | (go_at_call 13; (with_reducible refine Calls.mono (hjoin _ hst) ?_); rintro e w1 ⟨rfl, hb1⟩; have hown1 := hown.below hb1; have hB1 := hbe.trans (hb1.mono hbe.size)) | (go_at_call 9; (with_reducible refine Calls.mono (hname _ (hz.below hB1 (Nat.le_refl _))) ?_); rintro e w2 ⟨rfl, hb2⟩; have hown2 := hown1.below hb2; have hB2 := hB1.trans (hb2.mono hB1.size)) | (go_at_call 15; (with_reducible refine Calls.mono (hsp _ (hm.below hB2 (Nat.le_refl _))) ?_); rintro e w3 ⟨py, cy, rfl, hsy, hcy, hb3⟩; have hown3 := hown2.below hb3; have hB3 := hB2.trans (hb3.mono hB2.size)) | (at_builtin; refine app_own ?hw _ _ rfl w3.heap.size w3.heap.size ?hB _ _ xs [N] rfl rfl (hown5.alloc _) (Own.new w5 w3.heap.size [N] #[.string N] rfl hB5.size (show 1 ≤ maxLen by decide)) ?hl ?_; (case hw => rfl); (case hB => simp; exact Nat.le_succ_of_le hB5.size); (case hl => simp; omega); intro v6 w6 hown6 hgr6; have hB6 := (hB5.alloc hB5.size (.cells #[.string N] 9)).grown hgr6 (by simp; exact Nat.le_succ_of_le hB5.size) (fun j hj => (hown5.lt j hj).1); obtain ⟨pz, cz, rfl, hsz6, hcz⟩ := hown6.strs; clear hgr6) | (at_builtin; refine app_own ?hw _ _ rfl w3.heap.size w.heap.size ?hB _ _ [] xs rfl rfl (Own.new w3 w3.heap.size [] #[] rfl (Nat.le_refl _) (Nat.zero_le _)) (hown3.alloc _) ?hl ?_; (case hw => rfl); (case hB => simp); (case hl => simp; omega); intro v5 w5 hown5 hgr5; have hB5 := ((Below.refl w3.heap.size w3).alloc (Nat.le_refl _) (.cells #[] 9)).grown hgr5 (by simp) (fun j hj => Nat.le_of_eq (Option.some.inj hj)); clear hgr5) | (go_at_call 16; (with_reducible refine Calls.mono (hsame _ _ _ _ _ (hsy.below hB6 (Nat.le_refl _)) hsz6) ?_); rintro e w7 ⟨rfl, hb7⟩))
          all_goals
            go_ret
            exact ⟨rfl, hB3.trans ((hB6.trans (hb7.mono hB6.size)).mono hB3.size)⟩
end Go.Proofs.YtkehpgegghhfpaaDoor
