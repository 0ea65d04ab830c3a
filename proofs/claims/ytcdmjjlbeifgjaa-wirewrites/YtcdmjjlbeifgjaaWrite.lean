/- wire's writer: pred, done, list, bytes: what they answer, and what is written. -/
import Derived.Test.YtcdmjjlbeifgjaaNum
import Derived.Test.YtcdmjjlbeifgjaaMsg
namespace Go.Proofs.Ytcdmjjlbeifgjaa
open Go.RowKit

set_option maxRecDepth 20000 in
set_option maxHeartbeats 1000000 in
theorem pred_any (n : Int) (w : World) (B g : Nat) (bs : List Int) (hW : Wr w B g bs) (hl : bs.length ≤ 1099511627776) (hB : B ≤ w.heap.size) (E : Int) (xs : List Int)
    (hE : E = if n = -1 then 0 else numE 0 n 1) (hx : xs = if n = -1 then [255] else nb 1 n) :
    Calls Try.prog 36 #[.pointer (some ⟨g, 0, none⟩), .int .i64 n] w fun e w' => e = .returned (.int .i64 E) ∧ Below B w w' ∧ (E = 0 → Wr w' B g (bs ++ xs)) := by
  by_cases h : n = -1
  · subst h
    simp only [if_true] at hE hx
    subst hE; subst hx
    obtain ⟨hBg, sp, cap, hr, ho⟩ := hW
    have hc0 : w.cell? ⟨g, 0, none⟩ = some (.slice sp bs.length cap) := hr.cell
    go_enter Try.func36, Try.ntmps36
    go_wp2_with (at_builtin; (refine append8k (.tmp 11) (.tmp 12) 25 5 (by rfl) (by rfl) B Try.underlying25 info5 (.slice sp bs.length cap) bs (by rfl) ?ho (some ⟨w.heap.size, 0, none⟩) 1 1 [255] (by rfl) rfl ?hnil ?hby (by omega) ?hB ?_; (case ho => exact (ho.alloc _)); (case hnil => exact (fun h => by cases h)); (case hby => exact (bytes_new w 5 [255])); (case hB => exact Nat.le_trans hB (by simp)); simp only [List.length_append, List.length_cons, List.length_nil, Nat.zero_add]; intro sp5 cap5 w5 o5 b5 k5; have hr5 := k5 _ _ _ (by decide) (hr.alloc _); have hc5 : w5.cell? ⟨g, 0, none⟩ = some (.slice sp bs.length cap) := hr5.cell; have hf5 := hr5.frozen (j := 0)))
    go_ret
    exact ⟨rfl, (((Below.refl B w).alloc hB _).trans b5).setCell hBg _, fun _ => Wr.stored hBg hr5 (by simp) o5⟩
  · rw [if_neg h] at hE hx
    subst hE; subst hx
    have he : (n == -1) = false := by simpa using h
    have hnum := number_any 0 n 1 w B g bs hW hl hB (by decide)
    rw [show bsz 0 = 1 from rfl] at hnum
    generalize numE 0 n 1 = E at *
    go_enter Try.func36, Try.ntmps36
    go_wp2_with (go_at_call 37; (with_reducible refine Calls.mono (hnum) ?_); rintro e w2 ⟨rfl, hb2, hw2⟩)
    go_ret
    exact ⟨rfl, hb2, hw2⟩

set_option maxRecDepth 20000 in
set_option maxHeartbeats 1000000 in
theorem done_any (d : Bool) (w : World) (B g : Nat) (bs : List Int) (hW : Wr w B g bs) (hl : bs.length ≤ 1099511627776) (hB : B ≤ w.heap.size) :
    Calls Try.prog 39 #[.pointer (some ⟨g, 0, none⟩), .bool d] w fun e w' => e = .returned (.tuple #[]) ∧ Below B w w' ∧ Wr w' B g (bs ++ [if d then 1 else 0]) := by
  obtain ⟨hBg, sp, cap, hr, ho⟩ := hW
  have hc0 : w.cell? ⟨g, 0, none⟩ = some (.slice sp bs.length cap) := hr.cell
  cases d
  · go_enter Try.func39, Try.ntmps39
    go_wp2_with (at_builtin; (refine append8k (.tmp 18) (.tmp 19) 25 5 (by rfl) (by rfl) B Try.underlying25 info5 (.slice sp bs.length cap) bs (by rfl) ?ho (some ⟨w.heap.size, 0, none⟩) 1 1 [0] (by rfl) rfl ?hnil ?hby (by omega) ?hB ?_; (case ho => exact (ho.alloc _)); (case hnil => exact (fun h => by cases h)); (case hby => exact (bytes_new w 5 [0])); (case hB => exact Nat.le_trans hB (by simp)); simp only [List.length_append, List.length_cons, List.length_nil, Nat.zero_add]; intro sp5 cap5 w5 o5 b5 k5; have hr5 := k5 _ _ _ (by decide) (hr.alloc _); have hc5 : w5.cell? ⟨g, 0, none⟩ = some (.slice sp bs.length cap) := hr5.cell; have hf5 := hr5.frozen (j := 0)))
    go_end0
    exact ⟨rfl, (((Below.refl B w).alloc hB _).trans b5).setCell hBg _, Wr.stored hBg hr5 (by simp) o5⟩
  · go_enter Try.func39, Try.ntmps39
    go_wp2_with (at_builtin; (refine append8k (.tmp 9) (.tmp 10) 25 5 (by rfl) (by rfl) B Try.underlying25 info5 (.slice sp bs.length cap) bs (by rfl) ?ho (some ⟨w.heap.size, 0, none⟩) 1 1 [1] (by rfl) rfl ?hnil ?hby (by omega) ?hB ?_; (case ho => exact (ho.alloc _)); (case hnil => exact (fun h => by cases h)); (case hby => exact (bytes_new w 5 [1])); (case hB => exact Nat.le_trans hB (by simp)); simp only [List.length_append, List.length_cons, List.length_nil, Nat.zero_add]; intro sp5 cap5 w5 o5 b5 k5; have hr5 := k5 _ _ _ (by decide) (hr.alloc _); have hc5 : w5.cell? ⟨g, 0, none⟩ = some (.slice sp bs.length cap) := hr5.cell; have hf5 := hr5.frozen (j := 0)))
    go_end0
    exact ⟨rfl, (((Below.refl B w).alloc hB _).trans b5).setCell hBg _, Wr.stored hBg hr5 (by simp) o5⟩

set_option maxRecDepth 20000 in
set_option maxHeartbeats 1000000 in
theorem bytes_any (cs : List Int) (dp : Option Addr) (dc : Nat) (w0 w : World) (g : Nat) (bs : List Int) (hb : Below w0.heap.size w0 w) (hW : Wr w w0.heap.size g bs) (hl : bs.length ≤ 549755813888) (hcs : cs.length ≤ 549755813888)
    (hD : Bytes w0 dp cs) (hnil : dp = none → dc = 0 ∧ cs.length = 0) :
    Calls Try.prog 40 #[.pointer (some ⟨g, 0, none⟩), .slice dp cs.length dc] w fun e w' => e = .returned (.int .i64 (dataE cs)) ∧ Below w0.heap.size w0 w' ∧ (dataE cs = 0 → Wr w' w0.heap.size g (bs ++ (nb 2 cs.length ++ cs))) := by
  have hnum := number_any 2 cs.length 5 w w0.heap.size g bs hW (by omega) hb.size (by decide)
  rw [show bsz 2 = 2 from rfl, show numE 2 cs.length 5 = dataE cs by unfold numE dataE; rw [show blo 2 = 0 from rfl, show bhi 2 = 6000 from rfl]; split <;> split <;> omega] at hnum
  by_cases h : 6000 < cs.length
  · rw [show dataE cs = 5 by simp [dataE, h]] at hnum ⊢
    go_enter Try.func40, Try.ntmps40
    go_wp2_with (go_at_call 37; (with_reducible refine Calls.mono (hnum) ?_); rintro e w2 ⟨rfl, hb2, hw2⟩)
    go_ret
    exact ⟨rfl, hb.trans hb2, fun h => by cases h⟩
  · rw [show dataE cs = 0 by simp [dataE]; omega] at hnum ⊢
    have hle : cs.length ≤ 6000 := by omega
    have hnl := nb_length 2 cs.length
    rw [← List.append_assoc]
    generalize nb 2 (cs.length : Int) = hd at *
    have hlb : (bs ++ hd).length ≤ 549755813890 := by simp; omega
    generalize bs ++ hd = fs at *
    go_enter Try.func40, Try.ntmps40
    go_wp2_with first | (go_at_call 37; (with_reducible refine Calls.mono (hnum) ?_); rintro e w2 ⟨rfl, hb2, hw2⟩; obtain ⟨hBg, sp, cap, hr, ho⟩ := hw2 rfl; have hc0 : w2.cell? ⟨g, 0, none⟩ = some (.slice sp fs.length cap) := hr.cell; have hB2 := hb.trans hb2; have hD2 := hD.below hB2) | (at_builtin; (refine append8k (.tmp 17) (.tmp 18) 25 5 (by rfl) (by rfl) w0.heap.size Try.underlying25 info5 (.slice sp fs.length cap) fs (by rfl) ?ho dp cs.length dc cs (by rfl) rfl ?hnil ?hby (by omega) ?hB ?_; (case ho => exact ho); (case hnil => exact hnil); (case hby => exact hD2); (case hB => exact hB2.size); simp only [List.length_append]; intro sp5 cap5 w5 o5 b5 k5; have hr5 := k5 _ _ _ (by decide) hr; have hc5 : w5.cell? ⟨g, 0, none⟩ = some (.slice sp fs.length cap) := hr5.cell; have hf5 := hr5.frozen (j := 0)))
    go_ret
    exact ⟨rfl, (hB2.trans b5).setCell hBg _, fun _ => Wr.stored hBg hr5 (by simp) o5⟩
end Go.Proofs.Ytcdmjjlbeifgjaa
