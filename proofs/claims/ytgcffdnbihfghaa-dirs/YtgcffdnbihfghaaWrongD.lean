/- What the reference says of entries that are no directory's: as checkEntries does. No old memory turns. -/
import Derived.Test.YtgcffdnbihfghaaEncD
namespace Go.Proofs.Ytgcffdnbihfghaa
open Go Go.RowKit
theorem less_total : ∀ l k : List UInt8, (Op.bytesLess l k || l == k) = !Op.bytesLess k l
  | [], [] => rfl
  | [], _ :: _ => rfl
  | _ :: _, [] => rfl
  | a :: l, b :: k => by
    have ih := less_total l k
    simp only [Op.bytesLess]
    by_cases h : a = b
    · subst h
      have h1 : decide (a < a) = false := by simp [UInt8.lt_irrefl]
      simp only [h1, Bool.false_or, beq_self_eq_true, Bool.true_and]
      rw [← ih]; simp
    · by_cases h2 : a < b
      · have h3 : ¬ b < a := UInt8.not_lt.2 (UInt8.le_of_lt h2)
        simp [h2, h3, Ne.symm h]
      · have h3 : b < a := by
          rcases UInt8.lt_or_le b a with h3 | h3
          · exact h3
          · exact absurd (UInt8.le_antisymm (UInt8.not_lt.1 h2) h3) (fun e => h e.symm)
        simp [h2, h3, h]
set_option maxRecDepth 20000 in
set_option maxHeartbeats 1000000 in
theorem wrongD_any (E : List Ent) (n : Nat) (p : Option Addr) (cap : Nat) (w : World) (hl : E.length = n) (hE : Ents w p E) (hok : EntsOk E) (hn : n ≤ 1000000) :
    Calls Try.prog 43 #[.slice p n cap] w fun e w' => e = .returned (.int .i64 (chkE E)) ∧ Below w.heap.size w w' := by
  go_enter Try.func43, Try.ntmps43
  go_wp2
  go_loopw [3] (fun i wr => ∃ j : Nat, j ≤ n ∧ i = .int .i64 j ∧ nmE (E.drop j) = nmE E ∧ Below w.heap.size w wr) (fun i _ => n - (intOf i).toNat)
  case atStart => exact ⟨0, by omega, rfl, rfl, Below.refl _ _⟩
  case round =>
    obtain ⟨j, hj, rfl, hnm, b1⟩ := hrel
    by_cases hjn : j < n
    · have hget : E[j]? = some (E[j]'(by omega)) := List.getElem?_eq_getElem (by omega)
      obtain ⟨b, o, rfl, hc⟩ := hE (by omega)
      have c1 := fun wx (h : Below w.heap.size w wx) => range0 (rangeAt_below (hc j _ hget) h (Nat.le_refl _))
      obtain ⟨h1, h2, h3⟩ := hok _ (List.getElem_mem (h := (by omega : j < E.length)))
      have hd := nmE_drop hget
      rw [hnm] at hd
      generalize E[j]'(by omega) = e at *
      have hck := fun wx => rcheck_any e.name wx h3
      clear hc hE hok hget h1 h2 h3
      generalize chk e.name.data.toList = z at *
      have cr := c1 _ b1
      by_cases hz : z = 0
      · subst hz
        rw [if_pos rfl] at hd
        go_wp2_with (go_at_call 49; (with_reducible refine Calls.mono (hck _) ?_); rintro e1 w3 ⟨rfl, hw⟩; obtain rfl := hw.symm; clear hw)
        go_roundw
        case rel => exact ⟨j + 1, by omega, by go_num, hd.symm, b1⟩
        case measure => simp [intOf]; omega
      · rw [if_neg hz] at hd
        have hzb : (z == 0) = false := by simp [hz]
        go_upto_region 5 with (go_at_call 49; (with_reducible refine Calls.mono (hck _) ?_); rintro e1 w3 ⟨rfl, hw⟩; obtain rfl := hw.symm; clear hw)
        go_wp2_with (go_at_call 49; (with_reducible refine Calls.mono (hck _) ?_); rintro e1 w4 ⟨rfl, hw⟩; obtain rfl := hw.symm; clear hw)
        go_ret
        exact ⟨by rw [chkE, hd, if_pos hz]; rfl, b1⟩
    · have hnm0 : nmE E = 0 := by rw [← hnm, List.drop_eq_nil_of_le (by omega)]; rfl
      have hji : (n : Int) ≤ (j : Int) := by omega
      clear hnm
      go_wp2
      clear hji hjn hj
      go_loopw [4] (fun i wr => ∃ m : Nat, i = .int .i64 ((m : Int) + 1) ∧ (m + 1 ≤ n ∨ m = 0) ∧ rise (E.drop m) = rise E ∧ Below w.heap.size w wr) (fun i _ => n - (intOf i).toNat)
      case atStart => exact ⟨0, rfl, .inr rfl, rfl, b1⟩
      case round =>
        obtain ⟨m, rfl, hm, hrs, b1⟩ := hrel
        by_cases hmn : m + 1 < n
        · have hget : E[m]? = some (E[m]'(by omega)) := List.getElem?_eq_getElem (by omega)
          have hget2 : E[m + 1]? = some (E[m + 1]'(by omega)) := List.getElem?_eq_getElem (by omega)
          obtain ⟨b, o, rfl, hc⟩ := hE (by omega)
          have c1 := fun k => range0 (rangeAt_below (hc m _ hget) (below_drewN b1 k) (Nat.le_refl _))
          have c2 := fun k => range0 (rangeAt_below (hc (m + 1) _ hget2) (below_drewN b1 k) (Nat.le_refl _))
          have hd := rise_drop hget hget2
          rw [hrs, lessE] at hd
          generalize E[m]'(by omega) = e at *
          generalize E[m + 1]'(by omega) = f at *
          clear hc hE hok hget hget2 hm hrs
          have hmi : (m : Int) + 1 < n := by omega
          go_upto_region 9 with fail
          refine wp_region_quiet_lit (by kernel_rfl) (by kernel_rfl) ?_
          repeat (go_big_quiet_step (fail))
          refine wpQuiet_nil ?_
          rintro _ ⟨nq, rfl⟩
          have b2 := below_drewN b1 nq
          clear c1 c2 b1
          generalize wr.drewN nq = w2 at *
          rw [less_total]
          generalize Op.bytesLess e.name.toList f.name.toList = q at *
          cases q
          · go_wp2
            go_ret
            rw [Bool.false_and] at hd
            exact ⟨by rw [chkE, hnm0, hd]; rfl, b2⟩
          · rw [Bool.true_and] at hd
            go_wp2
            go_roundw
            case rel => exact ⟨m + 1, by go_num, .inl (by omega), hd.symm, b2⟩
            case measure => simp [intOf]; omega
        · have hr : rise E = true := by rw [← hrs]; exact rise_short (by simp; omega)
          have hmi : (n : Int) ≤ (m : Int) + 1 := by omega
          have hch : chkE E = if 20 < n then 4 else 0 := by rw [chkE, hnm0, hr, hl]; simp
          by_cases h20 : 20 < n
          · rw [if_pos h20] at hch
            have h20i : (20 : Int) < n := by omega
            go_wp2
            go_ret
            exact ⟨by rw [hch]; rfl, b1⟩
          · rw [if_neg h20] at hch
            have h20i : (n : Int) ≤ 20 := by omega
            go_wp2
            go_ret
            exact ⟨by rw [hch]; rfl, b1⟩
end Go.Proofs.Ytgcffdnbihfghaa
