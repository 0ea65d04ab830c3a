/- The reference's digits. No old memory turns. -/
import Derived.Test.YtoebnkepeledmaaDoorRefC
import Derived.Test.YtoebnkepeledmaaDoorOtsD
namespace Go.Proofs.YtoebnkepeledmaaDoor
open Go Go.RowKit

set_option maxRecDepth 20000 in
set_option maxHeartbeats 400000 in
theorem rdigit0 (x : Int) (b o len cap i : Nat) (w : World) (hi : i / 4 < len) (hl : len ≤ 1000000) (hr : (i : Int) % 4 = 0) (h0 : 0 ≤ x) (h1 : x < 256) (hc : w.cell? ⟨b, o + i / 4, none⟩ = some (.int .u8 x)) :
    Calls Tryd.prog 64 #[.slice (some ⟨b, o, none⟩) len cap, .int .i64 (i : Int)] w fun e w' => e = .returned (.int .i64 (x / 2 ^ 6 % 4)) ∧ w' = w := by
  have h := and3 (x / 64) (by omega) (by omega)
  have hi2 : (i : Int) / 4 < (len : Int) := by omega
  go_enter Tryd.func64, Tryd.ntmps64
  go_wp2
  go_ret
  exact ⟨rfl, rfl⟩

set_option maxRecDepth 20000 in
set_option maxHeartbeats 400000 in
theorem rdigit1 (x : Int) (b o len cap i : Nat) (w : World) (hi : i / 4 < len) (hl : len ≤ 1000000) (hr : (i : Int) % 4 = 1) (h0 : 0 ≤ x) (h1 : x < 256) (hc : w.cell? ⟨b, o + i / 4, none⟩ = some (.int .u8 x)) :
    Calls Tryd.prog 64 #[.slice (some ⟨b, o, none⟩) len cap, .int .i64 (i : Int)] w fun e w' => e = .returned (.int .i64 (x / 2 ^ 4 % 4)) ∧ w' = w := by
  have h := and3 (x / 16) (by omega) (by omega)
  have hi2 : (i : Int) / 4 < (len : Int) := by omega
  go_enter Tryd.func64, Tryd.ntmps64
  go_wp2
  go_ret
  exact ⟨rfl, rfl⟩

set_option maxRecDepth 20000 in
set_option maxHeartbeats 400000 in
theorem rdigit2 (x : Int) (b o len cap i : Nat) (w : World) (hi : i / 4 < len) (hl : len ≤ 1000000) (hr : (i : Int) % 4 = 2) (h0 : 0 ≤ x) (h1 : x < 256) (hc : w.cell? ⟨b, o + i / 4, none⟩ = some (.int .u8 x)) :
    Calls Tryd.prog 64 #[.slice (some ⟨b, o, none⟩) len cap, .int .i64 (i : Int)] w fun e w' => e = .returned (.int .i64 (x / 2 ^ 2 % 4)) ∧ w' = w := by
  have h := and3 (x / 4) (by omega) (by omega)
  have hi2 : (i : Int) / 4 < (len : Int) := by omega
  go_enter Tryd.func64, Tryd.ntmps64
  go_wp2
  go_ret
  exact ⟨rfl, rfl⟩

set_option maxRecDepth 20000 in
set_option maxHeartbeats 400000 in
theorem rdigit3 (x : Int) (b o len cap i : Nat) (w : World) (hi : i / 4 < len) (hl : len ≤ 1000000) (hr : (i : Int) % 4 = 3) (h0 : 0 ≤ x) (h1 : x < 256) (hc : w.cell? ⟨b, o + i / 4, none⟩ = some (.int .u8 x)) :
    Calls Tryd.prog 64 #[.slice (some ⟨b, o, none⟩) len cap, .int .i64 (i : Int)] w fun e w' => e = .returned (.int .i64 (x / 2 ^ 0 % 4)) ∧ w' = w := by
  have h := and3 x (by omega) (by omega)
  have hi2 : (i : Int) / 4 < (len : Int) := by omega
  go_enter Tryd.func64, Tryd.ntmps64
  go_wp2
  go_ret
  exact ⟨by simp, rfl⟩

theorem rdigit_any (bs : List Int) (sp : Option Addr) (len cap i : Nat) (w : World) (hl : bs.length = len) (hm : len ≤ 1000000) (hi : i / 4 < len) (h8 : In8 bs) (hby : Bytes w sp bs) :
    Calls Tryd.prog 64 #[.slice sp len cap, .int .i64 (i : Int)] w fun e w' => e = .returned (.int .i64 (digN bs i)) ∧ w' = w := by
  obtain ⟨b, o, rfl, hc⟩ := hby (by omega)
  have c1 := hc (i / 4) (by omega)
  obtain ⟨h0, h1⟩ := h8 (i / 4)
  unfold digN
  rcases (by omega : i % 4 = 0 ∨ i % 4 = 1 ∨ i % 4 = 2 ∨ i % 4 = 3) with h | h | h | h <;> rw [h]
  · exact rdigit0 _ b o len cap i w hi hm (by omega) h0 h1 c1
  · exact rdigit1 _ b o len cap i w hi hm (by omega) h0 h1 c1
  · exact rdigit2 _ b o len cap i w hi hm (by omega) h0 h1 c1
  · exact rdigit3 _ b o len cap i w hi hm (by omega) h0 h1 c1
end Go.Proofs.YtoebnkepeledmaaDoor
