/- What the two checks answer, as one number. -/
import Derived.Test.YtoebnkepeledmaaDoorGl
import Derived.Test.YtoebnkepeledmaaDoorLmsUx
import Derived.Test.YtoebnkepeledmaaDoorSixHx
import Derived.Test.YtoebnkepeledmaaDoorSixEx
import Derived.Test.YtoebnkepeledmaaDoorSixDx
import Derived.Test.YtoebnkepeledmaaDoorLmsTx
import Derived.Test.YtoebnkepeledmaaDoorLmsVx
namespace Go.Proofs.YtoebnkepeledmaaDoor

section
open Go Go.RowKit

instance (P : List Int) : Decidable (keyOk P) := by unfold keyOk; infer_instance
/-- What a check of a signature answers. -/
def chkZ (S : List Int → List Int) (P msg sig : List Int) : Int :=
  if ¬ keyOk P then 11
  else if sig.length ≠ 4300 + 32 * (num4 P 0).toNat then 12
  else if num4 sig 4296 ≠ num4 P 0 then 12
  else if num4 sig 0 ≥ ((2 ^ (num4 P 0).toNat : Nat) : Int) then 12
  else if ((sig.drop 4).take 4292).take 4 ≠ n4 2 then 12
  else if climbL S ((P.drop 8).take 16) (2 ^ (num4 P 0).toNat + (num4 sig 0).toNat) (backL S ((P.drop 8).take 16 ++ n4 (num4 sig 0)) msg ((sig.drop 4).take 4292)) (sig.drop 4300) (num4 P 0).toNat ≠ cutL P 24 then 12
  else 0
theorem chk_any (S : List Int → List Int) (hS : Hash S) (P msg sig : List Int) (pp mp sp : Option Addr) (pl pc ml mc sl sc : Nat) (w0 : World) (hL : Laid w0) (hPl : P.length = pl) (hpc : pl ≤ pc) (hPb : Bytes w0 pp P) (hPr : Oct P) (hml : msg.length = ml) (hmm : ml ≤ 17592186044416) (hmb : Bytes w0 mp msg) (hsl : sig.length = sl) (hsc : sl ≤ sc) (hsb : Bytes w0 sp sig) (hsr : Oct sig) :
    Calls Tryd.prog 27 #[.slice pp pl pc, .slice mp ml mc, .slice sp sl sc] w0 fun e w' => e = .returned (.int .i64 (chkZ S P msg sig)) ∧ Below w0.heap.size w0 w' := by
  unfold chkZ
  by_cases hk : keyOk P
  · rw [if_neg (by simpa using hk)]
    obtain ⟨h, hh⟩ : ∃ h : Nat, num4 P 0 = (h : Int) := ⟨(num4 P 0).toNat, by have := hk.2.1; omega⟩
    rw [hh, Int.toNat_natCast]
    by_cases hne : sl = 4300 + 32 * h
    · rw [if_neg (by omega)]
      by_cases hx : num4 sig 4296 = (h : Int)
      · rw [if_neg (by simpa using hx)]
        by_cases hq : num4 sig 0 ≥ ((2 ^ h : Nat) : Int)
        · rw [if_pos hq]
          exact lCheck_num P pp mp sp pl pc ml mc sl sc w0 hPl hpc hPb hPr sig hsl hsc hsb hsr h hk hh hne hx hq
        · rw [if_neg hq]
          obtain ⟨q, hqq⟩ : ∃ q : Nat, num4 sig 0 = (q : Int) := ⟨(num4 sig 0).toNat, by have := (num4_range hsr (k := 0) (by omega)).1; omega⟩
          have hql : q < 2 ^ h := by omega
          rw [hqq, Int.toNat_natCast]
          by_cases hty : ((sig.drop 4).take 4292).take 4 = n4 2
          · rw [if_neg (by simpa using hty)]
            by_cases htop : climbL S ((P.drop 8).take 16) (2 ^ h + q) (backL S ((P.drop 8).take 16 ++ n4 (q : Int)) msg ((sig.drop 4).take 4292)) (sig.drop 4300) h = cutL P 24
            · rw [if_neg (by simpa using htop)]
              exact lCheck_ok P pp mp sp pl pc ml mc sl sc w0 hPl hpc hPb hPr sig hsl hsc hsb hsr h hk hh S hS msg hml hmm hmb hL hne hx q hqq hql hty htop
            · rw [if_pos htop]
              exact lCheck_climb P pp mp sp pl pc ml mc sl sc w0 hPl hpc hPb hPr sig hsl hsc hsb hsr h hk hh S hS msg hml hmm hmb hL hne hx q hqq hql hty htop
          · rw [if_pos hty]
            exact lCheck_back P pp mp sp pl pc ml mc sl sc w0 hPl hpc hPb hPr sig hsl hsc hsb hsr h hk hh hL hne hx q hqq hql hty
      · rw [if_pos hx]
        exact lCheck_high P pp mp sp pl pc ml mc sl sc w0 hPl hpc hPb hPr sig hsl hsc hsb hsr h hk hh hne hx
    · rw [if_pos (by omega)]
      exact lCheck_len P pp mp sp pl pc ml mc sl sc w0 hPl hpc hPb hPr h hk hh hne
  · rw [if_pos hk]
    exact lCheck_key P pp mp sp pl pc ml mc sl sc w0 hPl hpc hPb hPr hk
theorem six_chk_any (S : List Int → List Int) (hS : Hash S) (P msg sig : List Int) (pp mp sp : Option Addr) (pl pc ml mc sl sc : Nat) (w0 : World) (hPl : P.length = pl) (hpc : pl ≤ pc) (hPb : Bytes w0 pp P) (hPr : Oct P) (hml : msg.length = ml) (hmm : ml ≤ 1000000) (hmb : Bytes w0 mp msg) (hmn : mp = none → mc = 0 ∧ ml = 0) (hsl : sig.length = sl) (hsc : sl ≤ sc) (hsb : Bytes w0 sp sig) (hsr : Oct sig) :
    Calls Tryd.prog 28 #[.slice pp pl pc, .slice mp ml mc, .slice sp sl sc] w0 fun e w' => e = .returned (.int .i64 (chkZ S P msg sig)) ∧ Below w0.heap.size w0 w' := by
  unfold chkZ
  by_cases hk : keyOk P
  · rw [if_neg (by simpa using hk)]
    obtain ⟨h, hh⟩ : ∃ h : Nat, num4 P 0 = (h : Int) := ⟨(num4 P 0).toNat, by have := hk.2.1; omega⟩
    rw [hh, Int.toNat_natCast]
    by_cases hne : sl = 4300 + 32 * h
    · rw [if_neg (by omega)]
      by_cases hx : num4 sig 4296 = (h : Int)
      · rw [if_neg (by simpa using hx)]
        by_cases hq : num4 sig 0 ≥ ((2 ^ h : Nat) : Int)
        · rw [if_pos hq]
          exact sixCheck_num P pp mp sp pl pc ml mc sl sc w0 hPl hpc hPb hPr sig hsl hsc hsb hsr h hk hh hne hx hq
        · rw [if_neg hq]
          obtain ⟨q, hqq⟩ : ∃ q : Nat, num4 sig 0 = (q : Int) := ⟨(num4 sig 0).toNat, by have := (num4_range hsr (k := 0) (by omega)).1; omega⟩
          have hql : q < 2 ^ h := by omega
          rw [hqq, Int.toNat_natCast]
          by_cases hty : ((sig.drop 4).take 4292).take 4 = n4 2
          · rw [if_neg (by simpa using hty)]
            have htop := sixCheck_top P pp mp sp pl pc ml mc sl sc w0 hPl hpc hPb hPr sig hsl hsc hsb hsr h hk hh S hS msg hml hmm hmn hmb hne hx q hqq hql hty
            by_cases ht : climbL S ((P.drop 8).take 16) (2 ^ h + q) (backL S ((P.drop 8).take 16 ++ n4 (q : Int)) msg ((sig.drop 4).take 4292)) (sig.drop 4300) h = cutL P 24
            · rw [if_pos ht] at htop
              rw [if_neg (by simpa using ht)]
              exact htop
            · rw [if_neg ht] at htop
              rw [if_pos ht]
              exact htop
          · rw [if_pos hty]
            exact sixCheck_back P pp mp sp pl pc ml mc sl sc w0 hPl hpc hPb hPr sig hsl hsc hsb hsr h hk hh hne hx q hqq hql hty
      · rw [if_pos hx]
        exact sixCheck_other P pp mp sp pl pc ml mc sl sc w0 hPl hpc hPb hPr sig hsl hsc hsb hsr h hk hh hne hx
    · rw [if_pos (by omega)]
      exact sixCheck_len P pp mp sp pl pc ml mc sl sc w0 hPl hpc hPb hPr h hk hh hne
  · rw [if_pos hk]
    exact sixCheck_key P pp mp sp pl pc ml mc sl sc w0 hPl hpc hPb hPr hk
end

section
open Go Go.RowKit

theorem chk_own (S : List Int → List Int) (hS : ∀ l, (S l).length = 32) (nm seed msg : List Int) (h q : Nat) (hn : nm.length = 16) (h1 : 1 ≤ h) (h5 : h ≤ 5) (hq : q < 2 ^ h) :
    chkZ S (keyL (h : Int) nm (nodeN S nm seed (2 ^ h) 1)) msg (lsigL S nm seed h q msg) = 0 := by
  have h32 : 2 ^ h ≤ 32 := by rcases (by omega : h = 1 ∨ h = 2 ∨ h = 3 ∨ h = 4 ∨ h = 5) with rfl | rfl | rfl | rfl | rfl <;> decide
  have hTl := nodeN_len hS nm seed (2 ^ h) 1
  have hkk := key_good (h := h) hn hTl h1 h5
  have hkh : num4 (keyL (h : Int) nm (nodeN S nm seed (2 ^ h) 1)) 0 = (h : Int) := key_height (by omega)
  obtain ⟨p1, p2, p3, p4⟩ := sig_parts hS nm seed h q msg h5 (by omega)
  have hl := lsigL_len hS nm seed h q msg
  unfold chkZ
  rw [if_neg (fun hh => hh hkk), hkh, Int.toNat_natCast, if_neg (fun hh => hh hl), p2, if_neg (fun hh => hh rfl), p1, if_neg (by omega), p3, if_neg (fun hh => hh (sig_type _ _ _)), Int.toNat_natCast, p4, key_name hn, key_top hn hTl, back_sig hS]
  rw [if_neg (fun hh => hh (climb_root hS nm seed h q h5 hq))]
end

end Go.Proofs.YtoebnkepeledmaaDoor
