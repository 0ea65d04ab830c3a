/- The greatest number of all records, in the program: what greatest answers. No old memory turns. -/
import Derived.Test.YtmfcildkkeeneaaLNum
namespace Go.Proofs.Ytmfcildkkeeneaa
open Go Go.RowKit

set_option maxRecDepth 20000 in
set_option maxHeartbeats 1000000 in
theorem greatest_any (l : List Int) (sp : Option Addr) (cap : Nat) (w : World) (hby : By l) (hl : l.length ≤ 1099511627776) (hc : l.length ≤ cap) (hb : Bytes w sp l) :
    Calls Try.prog 24 #[.slice sp l.length cap] w fun e w' => e = .returned (.int .i64 (grL l)) ∧ Below w.heap.size w w' := by
  obtain ⟨G, hG⟩ : ∃ G, grL l = G := ⟨_, rfl⟩
  rw [hG]
  go_enter Try.func24, Try.ntmps24
  go_wp2
  go_loopw [0, 3] (fun b n wr => ∃ (r : List Int) (p : Option Addr) (c : Nat) (m : Int), b = .slice p r.length c ∧ n = .int .i64 m ∧ By r ∧ r.length ≤ l.length ∧ r.length ≤ c ∧ Bytes wr p r ∧ 0 ≤ m ∧ m < 4294967296 ∧ mx m (grL r) = G ∧ Below w.heap.size w wr) (fun b _ _ => match b with | .slice _ n _ => n | _ => 0)
  case atStart =>
    refine ⟨l, sp, cap, 0, rfl, rfl, hby, Nat.le_refl _, hc, hb, by omega, by omega, ?_, Below.refl _ _⟩
    have := grL_range hby
    rw [← hG]
    unfold mx; split <;> omega
  case round =>
    obtain ⟨r, p, c, m, rfl, rfl, hr, hrl, hrc, hbr, hm0, hm1, hmG, hbel⟩ := hrel
    by_cases h8 : 8 ≤ r.length
    · have h8' : (((r.length : Nat) : Int) ≥ 8) := by omega
      obtain ⟨b, o, rfl, hcell⟩ := hbr (by omega)
      have ht8 : (r.take 8).length = 8 := by simp; omega
      have hnr := numL_range ht8 (by_take hr 8)
      rw [grL_step h8] at hmG
      have hnum := fun w1 => number_any (r.take 8) w1 ht8 (by_take hr 8)
      have hbr1 := Bytes.take (hbr.below ((Below.refl wr.heap.size wr).alloc (Nat.le_refl _) (.cells (v8 (zer 8)) 67))) 8
      have hz := Row.new wr 67 (v8 (zer 8))
      have hbd : Bytes wr (some ⟨b, o + 8, none⟩) (r.drop 8) := hbr.drop 8
      have hdl : (r.drop 8).length = r.length - 8 := by simp
      have hd8 := by_drop hr 8
      generalize hT : r.take 8 = T at *
      generalize hD : r.drop 8 = D at *
      generalize hN : numL T = N at *
      clear hT hcell hbr hD hN
      have h67 := info67 ht8
      have hspl : spl (zer 8) 0 T = T := spl_all _ _ (by rw [ht8]; rfl)
      have r2 := hz.setRow (v8 T)
      have b2 : Below w.heap.size w ((wr.alloc (.cells (v8 (zer 8)) 67)).setRow wr.heap.size (v8 T)) := below_setRow (hbel.alloc hbel.size _) hbel.size _
      have bd2 : Bytes ((wr.alloc (.cells (v8 (zer 8)) 67)).setRow wr.heap.size (v8 T)) (some ⟨b, o + 8, none⟩) D := hbd.below (below_setRow ((Below.refl _ _).alloc (Nat.le_refl _) _) (Nat.le_refl _) _)
      go_wp2_with (first | (refine copy8 (w := wr.alloc (.cells (v8 (zer 8)) 67)) (.tmp 8) (.tmp 9) 38 38 (by rfl) (by rfl) 5 Try.underlying38 (by kernel_rfl) (some ⟨wr.heap.size, 0, none⟩) (some ⟨b, o, none⟩) 8 8 r.length c (by rfl) (by rfl) wr.heap.size 0 (zer 8) 67 hz T (by rw [ht8]; omega) (fun _ => rfl) hbr1 (by rw [ht8]; decide) ?_; rw [hspl]) | (refine wpList_load_row (by rfl) 67 (.tmp 4) (by rfl) wr.heap.size (by rfl) 67 (v8 T) (0, 0) _ r2 Try.underlying67 rfl h67 ?_) | (go_at_call 31; (with_reducible refine Calls.mono (hnum _) ?_); rintro e w3 ⟨rfl, hb3⟩))
      all_goals go_roundw
      case rel =>
        refine ⟨D, _, c - 8, mx m N, by rw [hdl], rfl, hd8, by omega, by omega, fun hp => ?_, ?_, ?_, by rw [mx_assoc]; exact hmG, b2.trans (hb3.mono b2.size)⟩
        · rw [if_neg (by omega)]
          exact (bd2.below hb3) hp
        · unfold mx; split <;> omega
        · unfold mx; split <;> omega
      case measure =>
        show r.length - 8 < r.length
        omega
    · have h8' : ¬ (((r.length : Nat) : Int) ≥ 8) := by omega
      rw [grL_short (by omega)] at hmG
      obtain rfl : m = G := by rw [← hmG]; unfold mx; split <;> omega
      go_wp2
      go_ret
      exact ⟨rfl, hbel⟩
end Go.Proofs.Ytmfcildkkeeneaa
