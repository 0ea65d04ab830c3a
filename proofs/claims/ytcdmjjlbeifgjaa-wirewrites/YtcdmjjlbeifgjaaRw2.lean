/- The reference's writer: data and list: what they leave behind. -/
import Derived.Test.YtcdmjjlbeifgjaaRw
namespace Go.Proofs.Ytcdmjjlbeifgjaa
open Go.RowKit

set_option maxRecDepth 20000 in
set_option maxHeartbeats 1000000 in
theorem rdata_any (cs : List Int) (dp : Option Addr) (dc : Nat) (w0 w : World) (g : Nat) (E : Int) (bs : List Int) (hb : Below w0.heap.size w0 w) (hW : RW w w0.heap.size g E bs) (hl : bs.length ≤ 274877906944) (hcs : cs.length ≤ 274877906944) (hD : Bytes w0 dp cs) (hnil : dp = none → dc = 0 ∧ cs.length = 0) :
    Calls Try.prog 24 #[.pointer (some ⟨g, 0, none⟩), .slice dp cs.length dc] w fun e w' => e = .returned (.tuple #[]) ∧ Below w0.heap.size w0 w' ∧ RW w' w0.heap.size g (firstE E (decide (6000 < (cs.length : Int))) 5) (bs ++ [(cs.length : Int) / 256 % 256, (cs.length : Int) % 256] ++ cs) := by
  have hwr := wrong_any (decide (6000 < (cs.length : Int))) 5 w w0.heap.size g E bs hW
  generalize firstE E (decide (6000 < (cs.length : Int))) 5 = E2 at *
  obtain ⟨hd, hhdd⟩ : ∃ hd : List Int, hd = [(cs.length : Int) / 256 % 256, (cs.length : Int) % 256] := ⟨_, rfl⟩
  have hhd : hd.length = 2 := by rw [hhdd]; rfl
  have hhl : (bs ++ hd).length = bs.length + 2 := by rw [List.length_append, hhd]
  rw [← hhdd]
  have hh' : Hid (hd = [(cs.length : Int) / 256 % 256, (cs.length : Int) % 256]) := hhdd
  clear hhdd
  go_enter Try.func24, Try.ntmps24
  go_wp2_with first | (go_at_call 41; (with_reducible refine Calls.mono (hwr) ?_); rintro e w2 ⟨rfl, hb2, hW2⟩; obtain ⟨hBg, sp, cap, hr2, ho2⟩ := hW2; have hc2 : w2.cell? ⟨g, 0, none⟩ = some (.slice sp bs.length cap) := hr2.cell; have hB2 := hb.trans hb2) | (at_builtin; (refine append8k (.tmp 13) (.tmp 21) 25 5 (by rfl) (by rfl) w0.heap.size Try.underlying25 info5 (.slice sp bs.length cap) bs (by rfl) ?ho (some ⟨w2.heap.size, 0, none⟩) 2 2 [(cs.length : Int) / 256 % 256, (cs.length : Int) % 256] (by rfl) rfl ?hnil ?hby ?hlen ?hB ?_; (case ho => exact (ho2.alloc _)); (case hnil => exact (fun h => by cases h)); (case hby => exact (bytes_new w2 5 [(cs.length : Int) / 256 % 256, (cs.length : Int) % 256])); (case hlen => omega); (case hB => exact Nat.le_trans hB2.size (by simp)); simp only [List.length_append, List.length_cons, List.length_nil, Nat.zero_add, Nat.reduceAdd]; intro sp5 cap5 w5 o5 b5 k5; have hr5 := k5 _ _ _ (by decide) (hr2.alloc _); have hB5 := (hB2.alloc hB2.size _).trans b5; rw [← hh'.out] at o5)) | (at_builtin; (refine append8k (.tmp 22) (.tmp 23) 25 5 (by rfl) (by rfl) w0.heap.size Try.underlying25 info5 (.slice sp5 (bs.length + 2) cap5) (bs ++ hd) (by rfl) ?ho dp cs.length dc cs (by rfl) rfl ?hnil ?hby ?hlen ?hB ?_; (case ho => exact o5); (case hnil => exact hnil); (case hby => exact (hD.below hB5)); (case hlen => rw [hhl]; omega); (case hB => exact hB5.size); simp only [List.length_append, hhd]; intro sp6 cap6 w6 o6 b6 k6; have hr6 := k6 _ _ _ (by decide) hr5; have hc6 : w6.cell? ⟨g, 0, none⟩ = some (.slice sp bs.length cap) := hr6.cell; have hf6 := hr6.frozen (j := 0)))
  go_end0
  exact ⟨rfl, (hB5.trans b6).setCell hBg _, RW.stored hBg hr6 (by rw [List.length_append, hhl]) o6⟩
end Go.Proofs.Ytcdmjjlbeifgjaa
