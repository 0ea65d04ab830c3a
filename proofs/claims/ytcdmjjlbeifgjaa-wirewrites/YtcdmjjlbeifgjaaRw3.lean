/- The reference's writer: list: what it leaves behind. -/
import Derived.Test.YtcdmjjlbeifgjaaRw2
namespace Go.Proofs.Ytcdmjjlbeifgjaa
open Go.RowKit

def nodesF (E : Int) (l : List Int) : Int := l.foldl (fun E n => firstE E (decide (n < 0) || decide (10 ≤ n)) 1) E
theorem nodesF_snoc (E : Int) (l : List Int) (n : Int) : nodesF E (l ++ [n]) = firstE (nodesF E l) (decide (n < 0) || decide (10 ≤ n)) 1 := by simp [nodesF]

set_option maxRecDepth 20000 in
set_option maxHeartbeats 1000000 in
theorem rlistw_any (l : List Int) (lp : Option Addr) (lc : Nat) (w0 w : World) (g : Nat) (E : Int) (bs : List Int) (hb : Below w0.heap.size w0 w) (hW : RW w w0.heap.size g E bs) (hl : bs.length ≤ 137438953472) (hll : l.length ≤ 137438953472) (hI : Ints w0 lp l) :
    Calls Try.prog 22 #[.pointer (some ⟨g, 0, none⟩), .slice lp l.length lc] w fun e w' => e = .returned (.tuple #[]) ∧ Below w0.heap.size w0 w' ∧ RW w' w0.heap.size g (nodesF (firstE E (decide (10 < (l.length : Int))) 4) l) (bs ++ [(l.length : Int) % 256] ++ l.map (· % 256)) := by
  have hwr := wrong_any (decide (10 < (l.length : Int))) 4 w w0.heap.size g E bs hW
  generalize firstE E (decide (10 < (l.length : Int))) 4 = E2 at *
  obtain ⟨fs, hfs⟩ : ∃ fs : List Int, fs = bs ++ [(l.length : Int) % 256] := ⟨_, rfl⟩
  rw [← hfs]
  have hfs' : Hid (fs = bs ++ [(l.length : Int) % 256]) := hfs
  have hfl : fs.length = bs.length + 1 := by rw [hfs]; simp
  clear hfs
  go_enter Try.func22, Try.ntmps22
  go_wp2_with first | (go_at_call 41; (with_reducible refine Calls.mono (hwr) ?_); rintro e w2 ⟨rfl, hb2, hW2⟩; obtain ⟨hBg, sp, cap, hr2, ho2⟩ := hW2; have hc2 : w2.cell? ⟨g, 0, none⟩ = some (.slice sp bs.length cap) := hr2.cell; have hB2 := hb.trans hb2) | (at_builtin; (refine append8k (.tmp 14) (.tmp 18) 25 5 (by rfl) (by rfl) w0.heap.size Try.underlying25 info5 (.slice sp bs.length cap) bs (by rfl) ?ho (some ⟨w2.heap.size, 0, none⟩) 1 1 [(l.length : Int) % 256] (by rfl) rfl ?hnil ?hby ?hlen ?hB ?_; (case ho => exact (ho2.alloc _)); (case hnil => exact (fun h => by cases h)); (case hby => exact (bytes_new w2 5 [(l.length : Int) % 256])); (case hlen => omega); (case hB => exact Nat.le_trans hB2.size (by simp)); simp only [List.length_append, List.length_cons, List.length_nil, Nat.zero_add]; intro sp5 cap5 w5 o5 b5 k5; have hr5 := k5 _ _ _ (by decide) (hr2.alloc _); have hc5 : w5.cell? ⟨g, 0, none⟩ = some (.slice sp bs.length cap) := hr5.cell; have hf5 := hr5.frozen (j := 0); have hB5 := (hB2.alloc hB2.size _).trans b5))
  have hW5 := RW.stored hBg hr5 (by simp) o5
  have hB6 := hB5.setCell (p := ⟨g, 0, none⟩) hBg (.slice sp5 (bs.length + 1) cap5)
  rw [← hfs'.out] at hW5
  generalize w5.setCell ⟨g, 0, none⟩ (.slice sp5 (bs.length + 1) cap5) = W6 at *
  go_loopw [4] (fun i wr => ∃ k : Nat, i = .int .i64 k ∧ k ≤ l.length ∧ RW wr w0.heap.size g (nodesF E2 (l.take k)) (fs ++ (l.take k).map (· % 256)) ∧ Below w0.heap.size w0 wr) (fun i _ => l.length - (intOf i).toNat)
  case atStart => exact ⟨0, rfl, by omega, by simpa [nodesF] using hW5, hB6⟩
  case round =>
    obtain ⟨k, rfl, hk, hWk, hBk⟩ := hrel
    by_cases hlt : k < l.length
    · obtain ⟨b, o, rfl, hc⟩ := hI.below hBk (Nat.le_refl _) (by omega)
      have g1 := hc k hlt
      have hx := rnode_any (gi l k) 0 wr w0.heap.size g _ _ hWk (by rw [List.length_append, List.length_map, List.length_take]; omega) hBk.size
      have htk := take_gi l k hlt
      have h1 : Hid (nodesF E2 (l.take (k + 1)) = firstE (nodesF E2 (l.take k)) (decide (gi l k < 0) || decide (10 ≤ gi l k)) 1) := by show _ = _; rw [htk, nodesF_snoc]
      have h2 : Hid (fs ++ (l.take (k + 1)).map (· % 256) = fs ++ (l.take k).map (· % 256) ++ [gi l k % 256]) := by show _ = _; rw [htk]; simp
      clear hc htk
      generalize firstE (nodesF E2 (l.take k)) (decide (gi l k < 0) || decide (10 ≤ gi l k)) 1 = E3 at *
      generalize gi l k = x at *
      go_wp2_with (go_at_call 21; (with_reducible refine Calls.mono (hx) ?_); rintro e w7 ⟨rfl, hb7, hW7⟩)
      go_roundw
      case rel => exact ⟨k + 1, by go_num, by omega, by rw [h1.out, h2.out]; exact hW7, hBk.trans hb7⟩
      case measure => simp [intOf]; omega
    · obtain rfl : k = l.length := by omega
      rw [List.take_length] at hWk
      go_wp2
      go_end0
      exact ⟨rfl, hBk, hWk⟩
end Go.Proofs.Ytcdmjjlbeifgjaa
