/- LmsSigns returns true and turns no old memory, for any name, seed, height, leaf and text. -/
import Derived.Test.YtoebnkepeledmaaDoorSixTx
namespace Go.Proofs.YtoebnkepeledmaaDoor
open Go Go.RowKit

theorem in8_oct2 {l : List Int} (h : In8 l) : Oct l := fun x hx => by
  obtain ⟨i, hi, rfl⟩ := List.mem_iff_getElem.1 hx
  have := h i
  simpa [gi, List.getD_eq_getElem?_getD, List.getElem?_eq_getElem hi] using this
set_option maxRecDepth 20000 in
set_option maxHeartbeats 1000000 in
theorem signs6_early (S : List Int → List Int) (hS : Hash S) (nm seed : List Int) (hh q : Int) (mp : Option Addr) (ml mc : Nat) (w0 : World) (hL : Laid w0) (h : 200 < ml) :
    Calls Tryd.prog 9 #[.agg (v8 nm), .agg (v8 seed), .int .i64 hh, .int .i64 q, .slice mp ml mc] w0 fun e w' => e = .returned (.bool true) ∧ Below w0.heap.size w0 w' := by
  have hK : ∀ wx, Laid wx → Calls Tryd.prog 21 #[] wx fun e w' => e = .returned (.bool true) ∧ Below wx.heap.size wx w' := fun wx hl => known6_any S hS wx hl
  have hm1 : decide ((ml : Int) > 200) = true := decide_eq_true (by omega)
  go_enter Tryd.func9, Tryd.ntmps9
  go_upto_region 1 with fail
  have b1 : Below w0.heap.size w0 (World.alloc (World.alloc w0 (.cells (v8 nm) 22)) (.cells (v8 seed) 24)) := ((Below.refl _ _).alloc (Nat.le_refl _) _).alloc (by simp) _
  change Code.wp _ _ _ _ ((World.alloc (World.alloc w0 (.cells (v8 nm) 22)) (.cells (v8 seed) 24)))
  generalize (World.alloc (World.alloc w0 (.cells (v8 nm) 22)) (.cells (v8 seed) 24)) = w1 at b1 ⊢
  go_wp2_with (go_at_call 21; (with_reducible refine Calls.mono (hK _ (hL.below b1)) ?_); rintro e w2 ⟨rfl, hb2⟩)
  go_ret
  exact ⟨rfl, b1.trans (hb2.mono b1.size)⟩
theorem signs6_any (S : List Int → List Int) (hS : Hash S) (nm seed msg : List Int) (hh q : Int) (mp : Option Addr) (ml mc : Nat) (w0 : World) (hL : Laid w0) (hn : nm.length = 16) (hs : seed.length = 32) (hnr : Oct nm) (hml : msg.length = ml) (hmn : mp = none → mc = 0 ∧ ml = 0) (hmb : Bytes w0 mp msg) :
    Calls Tryd.prog 9 #[.agg (v8 nm), .agg (v8 seed), .int .i64 hh, .int .i64 q, .slice mp ml mc] w0 fun e w' => e = .returned (.bool true) ∧ Below w0.heap.size w0 w' := by
  by_cases hm : 200 < ml
  · exact signs6_early S hS nm seed hh q mp ml mc w0 hL hm
  have h2 : hh % 2 = 0 ∨ hh % 2 = 1 := by omega
  rcases h2 with h2 | h2
  · by_cases hq : 0 ≤ q ∧ q < 2
    · obtain ⟨k, rfl⟩ : ∃ k : Nat, q = k := ⟨q.toNat, by omega⟩
      exact signs6_ok1 S hS nm seed msg hh k mp ml mc w0 hL hn hs hnr hml hmn (by omega) hmb h2 (by omega)
    · exact signs6_bad1 S hS nm seed hh q mp ml mc w0 hL hn hs (by omega) h2 hq
  · by_cases hq : 0 ≤ q ∧ q < 4
    · obtain ⟨k, rfl⟩ : ∃ k : Nat, q = k := ⟨q.toNat, by omega⟩
      exact signs6_ok2 S hS nm seed msg hh k mp ml mc w0 hL hn hs hnr hml hmn (by omega) hmb h2 (by omega)
    · exact signs6_bad2 S hS nm seed hh q mp ml mc w0 hL hn hs (by omega) h2 hq
end Go.Proofs.YtoebnkepeledmaaDoor
