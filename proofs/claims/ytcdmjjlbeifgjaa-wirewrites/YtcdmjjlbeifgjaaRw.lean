/- The reference's writer: wrong, node, err, time: what they leave behind. -/
import Derived.Test.YtcdmjjlbeifgjaaEncode
namespace Go.Proofs.Ytcdmjjlbeifgjaa
open Go.RowKit

/-- The first thing that was wrong. -/
def firstE (E : Int) (is : Bool) (e : Int) : Int := if E = 0 ∧ is = true then e else E
/-- The reference's writer at block g: its bytes so far, and the first thing that was wrong. -/
def RW (w : World) (B g : Nat) (E : Int) (bs : List Int) : Prop := B ≤ g ∧ ∃ sp cap, Row w g 55 #[.slice sp bs.length cap, .int .i64 E] ∧ Own8 w B 5 (.slice sp bs.length cap) bs
theorem RW.stored {w : World} {B g : Nat} {u : Value} {E : Int} {sp : Option Addr} {n cap : Nat} {bs : List Int} (hB : B ≤ g) (hr : Row w g 55 #[u, .int .i64 E]) (hn : n = bs.length) (ho : Own8 w B 5 (.slice sp n cap) bs) :
    RW (w.setCell ⟨g, 0, none⟩ (.slice sp n cap)) B g E bs := by
  subst hn
  exact ⟨hB, sp, cap, hr.set0 0 _, ho.keep hr (by decide) 0⟩

set_option maxRecDepth 20000 in
set_option maxHeartbeats 1000000 in
theorem wrong_any (is : Bool) (e : Int) (w : World) (B g : Nat) (E : Int) (bs : List Int) (hW : RW w B g E bs) :
    Calls Try.prog 41 #[.pointer (some ⟨g, 0, none⟩), .bool is, .int .i64 e] w fun e' w' => e' = .returned (.tuple #[]) ∧ Below B w w' ∧ RW w' B g (firstE E is e) bs := by
  have hW' := hW
  obtain ⟨hBg, sp, cap, hr, ho⟩ := hW
  have hc1 : w.cell? ⟨g, 1, none⟩ = some (.int .i64 E) := hr.cell
  have hf1 := hr.frozen (j := 1)
  by_cases h : E = 0
  · subst h
    cases is
    · go_enter Try.func41, Try.ntmps41
      go_wp2
      go_end0
      exact ⟨rfl, Below.refl _ _, hW'⟩
    · go_enter Try.func41, Try.ntmps41
      go_wp2
      go_end0
      exact ⟨rfl, (Below.refl _ _).setCell hBg _, hBg, sp, cap, hr.set0 1 _, ho.keep hr (by decide) 1⟩
  · have he : (E == 0) = false := by simpa using h
    have hE : firstE E is e = E := by simp [firstE, h]
    rw [hE]
    clear hE
    go_enter Try.func41, Try.ntmps41
    go_wp2
    go_end0
    exact ⟨rfl, Below.refl _ _, hW'⟩

set_option maxRecDepth 20000 in
set_option maxHeartbeats 1000000 in
theorem rnode_any (n least : Int) (w : World) (B g : Nat) (E : Int) (bs : List Int) (hW : RW w B g E bs) (hl : bs.length ≤ 549755813888) (hB : B ≤ w.heap.size) :
    Calls Try.prog 21 #[.pointer (some ⟨g, 0, none⟩), .int .i64 n, .int .i64 least] w fun e w' => e = .returned (.tuple #[]) ∧ Below B w w' ∧ RW w' B g (firstE E (decide (n < least) || decide (10 ≤ n)) 1) (bs ++ [n % 256]) := by
  by_cases h : n < least
  · have hd : decide (n < least) = true := by simpa using h
    rw [show (decide (n < least) || decide (10 ≤ n)) = true by simp [h]]
    have hwr := wrong_any (true) 1 w B g E bs hW
    generalize firstE E (true) 1 = E2 at *
    go_enter Try.func21, Try.ntmps21
    go_wp2_with first | (go_at_call 41; (with_reducible refine Calls.mono (hwr) ?_); rintro e w2 ⟨rfl, hb2, hW2⟩; obtain ⟨hBg, sp, cap, hr2, ho2⟩ := hW2; have hc2 : w2.cell? ⟨g, 0, none⟩ = some (.slice sp bs.length cap) := hr2.cell; have hB2 := Nat.le_trans hB hb2.size) | (at_builtin; (refine append8k (.tmp 19) (.tmp 22) 25 5 (by rfl) (by rfl) B Try.underlying25 info5 (.slice sp bs.length cap) bs (by rfl) ?ho (some ⟨w2.heap.size, 0, none⟩) 1 1 [n % 256] (by rfl) rfl ?hnil ?hby ?hlen ?hB ?_; (case ho => exact (ho2.alloc _)); (case hnil => exact (fun h => by cases h)); (case hby => exact (bytes_new w2 5 [n % 256])); (case hlen => omega); (case hB => exact Nat.le_trans hB2 (by simp)); simp only [List.length_append, List.length_cons, List.length_nil, Nat.zero_add]; intro sp5 cap5 w5 o5 b5 k5; have hr5 := k5 _ _ _ (by decide) (hr2.alloc _); have hc5 : w5.cell? ⟨g, 0, none⟩ = some (.slice sp bs.length cap) := hr5.cell; have hf5 := hr5.frozen (j := 0)))
    go_end0
    exact ⟨rfl, (hb2.trans (((Below.refl B w2).alloc hB2 _).trans b5)).setCell hBg _, RW.stored hBg hr5 (by simp) o5⟩
  · have hd : decide (n < least) = false := by simpa using h
    rw [show (decide (n < least) || decide (10 ≤ n)) = decide (10 ≤ n) by simp [h]]
    have hwr := wrong_any (decide (10 ≤ n)) 1 w B g E bs hW
    generalize firstE E (decide (10 ≤ n)) 1 = E2 at *
    go_enter Try.func21, Try.ntmps21
    go_wp2_with first | (go_at_call 41; (with_reducible refine Calls.mono (hwr) ?_); rintro e w2 ⟨rfl, hb2, hW2⟩; obtain ⟨hBg, sp, cap, hr2, ho2⟩ := hW2; have hc2 : w2.cell? ⟨g, 0, none⟩ = some (.slice sp bs.length cap) := hr2.cell; have hB2 := Nat.le_trans hB hb2.size) | (at_builtin; (refine append8k (.tmp 19) (.tmp 22) 25 5 (by rfl) (by rfl) B Try.underlying25 info5 (.slice sp bs.length cap) bs (by rfl) ?ho (some ⟨w2.heap.size, 0, none⟩) 1 1 [n % 256] (by rfl) rfl ?hnil ?hby ?hlen ?hB ?_; (case ho => exact (ho2.alloc _)); (case hnil => exact (fun h => by cases h)); (case hby => exact (bytes_new w2 5 [n % 256])); (case hlen => omega); (case hB => exact Nat.le_trans hB2 (by simp)); simp only [List.length_append, List.length_cons, List.length_nil, Nat.zero_add]; intro sp5 cap5 w5 o5 b5 k5; have hr5 := k5 _ _ _ (by decide) (hr2.alloc _); have hc5 : w5.cell? ⟨g, 0, none⟩ = some (.slice sp bs.length cap) := hr5.cell; have hf5 := hr5.frozen (j := 0)))
    go_end0
    exact ⟨rfl, (hb2.trans (((Below.refl B w2).alloc hB2 _).trans b5)).setCell hBg _, RW.stored hBg hr5 (by simp) o5⟩
set_option maxRecDepth 20000 in
set_option maxHeartbeats 1000000 in
theorem rerr_any (n : Int) (w : World) (B g : Nat) (E : Int) (bs : List Int) (hW : RW w B g E bs) (hl : bs.length ≤ 549755813888) (hB : B ≤ w.heap.size) :
    Calls Try.prog 23 #[.pointer (some ⟨g, 0, none⟩), .int .i64 n] w fun e w' => e = .returned (.tuple #[]) ∧ Below B w w' ∧ RW w' B g (firstE E (decide (n < 0) || decide (20 < n)) 1) (bs ++ [n % 256]) := by
  by_cases h : n < 0
  · have hd : decide (n < 0) = true := by simpa using h
    rw [show (decide (n < 0) || decide (20 < n)) = true by simp [h]]
    have hwr := wrong_any (true) 1 w B g E bs hW
    generalize firstE E (true) 1 = E2 at *
    go_enter Try.func23, Try.ntmps23
    go_wp2_with first | (go_at_call 41; (with_reducible refine Calls.mono (hwr) ?_); rintro e w2 ⟨rfl, hb2, hW2⟩; obtain ⟨hBg, sp, cap, hr2, ho2⟩ := hW2; have hc2 : w2.cell? ⟨g, 0, none⟩ = some (.slice sp bs.length cap) := hr2.cell; have hB2 := Nat.le_trans hB hb2.size) | (at_builtin; (refine append8k (.tmp 16) (.tmp 19) 25 5 (by rfl) (by rfl) B Try.underlying25 info5 (.slice sp bs.length cap) bs (by rfl) ?ho (some ⟨w2.heap.size, 0, none⟩) 1 1 [n % 256] (by rfl) rfl ?hnil ?hby ?hlen ?hB ?_; (case ho => exact (ho2.alloc _)); (case hnil => exact (fun h => by cases h)); (case hby => exact (bytes_new w2 5 [n % 256])); (case hlen => omega); (case hB => exact Nat.le_trans hB2 (by simp)); simp only [List.length_append, List.length_cons, List.length_nil, Nat.zero_add]; intro sp5 cap5 w5 o5 b5 k5; have hr5 := k5 _ _ _ (by decide) (hr2.alloc _); have hc5 : w5.cell? ⟨g, 0, none⟩ = some (.slice sp bs.length cap) := hr5.cell; have hf5 := hr5.frozen (j := 0)))
    go_end0
    exact ⟨rfl, (hb2.trans (((Below.refl B w2).alloc hB2 _).trans b5)).setCell hBg _, RW.stored hBg hr5 (by simp) o5⟩
  · have hd : decide (n < 0) = false := by simpa using h
    rw [show (decide (n < 0) || decide (20 < n)) = decide (20 < n) by simp [h]]
    have hwr := wrong_any (decide (20 < n)) 1 w B g E bs hW
    generalize firstE E (decide (20 < n)) 1 = E2 at *
    go_enter Try.func23, Try.ntmps23
    go_wp2_with first | (go_at_call 41; (with_reducible refine Calls.mono (hwr) ?_); rintro e w2 ⟨rfl, hb2, hW2⟩; obtain ⟨hBg, sp, cap, hr2, ho2⟩ := hW2; have hc2 : w2.cell? ⟨g, 0, none⟩ = some (.slice sp bs.length cap) := hr2.cell; have hB2 := Nat.le_trans hB hb2.size) | (at_builtin; (refine append8k (.tmp 16) (.tmp 19) 25 5 (by rfl) (by rfl) B Try.underlying25 info5 (.slice sp bs.length cap) bs (by rfl) ?ho (some ⟨w2.heap.size, 0, none⟩) 1 1 [n % 256] (by rfl) rfl ?hnil ?hby ?hlen ?hB ?_; (case ho => exact (ho2.alloc _)); (case hnil => exact (fun h => by cases h)); (case hby => exact (bytes_new w2 5 [n % 256])); (case hlen => omega); (case hB => exact Nat.le_trans hB2 (by simp)); simp only [List.length_append, List.length_cons, List.length_nil, Nat.zero_add]; intro sp5 cap5 w5 o5 b5 k5; have hr5 := k5 _ _ _ (by decide) (hr2.alloc _); have hc5 : w5.cell? ⟨g, 0, none⟩ = some (.slice sp bs.length cap) := hr5.cell; have hf5 := hr5.frozen (j := 0)))
    go_end0
    exact ⟨rfl, (hb2.trans (((Below.refl B w2).alloc hB2 _).trans b5)).setCell hBg _, RW.stored hBg hr5 (by simp) o5⟩
set_option maxRecDepth 20000 in
set_option maxHeartbeats 1000000 in
theorem rtime_any (n : Int) (w : World) (B g : Nat) (E : Int) (bs : List Int) (hW : RW w B g E bs) (hl : bs.length ≤ 549755813888) (hB : B ≤ w.heap.size) :
    Calls Try.prog 25 #[.pointer (some ⟨g, 0, none⟩), .int .i64 n] w fun e w' => e = .returned (.tuple #[]) ∧ Below B w w' ∧ RW w' B g (firstE E (decide (n < 1) || decide (1000 < n)) 1) (bs ++ [n / 16777216 % 256, n / 65536 % 256, n / 256 % 256, n % 256]) := by
  by_cases h : n < 1
  · have hd : decide (n < 1) = true := by simpa using h
    rw [show (decide (n < 1) || decide (1000 < n)) = true by simp [h]]
    have hwr := wrong_any (true) 1 w B g E bs hW
    generalize firstE E (true) 1 = E2 at *
    go_enter Try.func25, Try.ntmps25
    go_wp2_with first | (go_at_call 41; (with_reducible refine Calls.mono (hwr) ?_); rintro e w2 ⟨rfl, hb2, hW2⟩; obtain ⟨hBg, sp, cap, hr2, ho2⟩ := hW2; have hc2 : w2.cell? ⟨g, 0, none⟩ = some (.slice sp bs.length cap) := hr2.cell; have hB2 := Nat.le_trans hB hb2.size) | (at_builtin; (refine append8k (.tmp 16) (.tmp 28) 25 5 (by rfl) (by rfl) B Try.underlying25 info5 (.slice sp bs.length cap) bs (by rfl) ?ho (some ⟨w2.heap.size, 0, none⟩) 4 4 [n / 16777216 % 256, n / 65536 % 256, n / 256 % 256, n % 256] (by rfl) rfl ?hnil ?hby ?hlen ?hB ?_; (case ho => exact (ho2.alloc _)); (case hnil => exact (fun h => by cases h)); (case hby => exact (bytes_new w2 5 [n / 16777216 % 256, n / 65536 % 256, n / 256 % 256, n % 256])); (case hlen => omega); (case hB => exact Nat.le_trans hB2 (by simp)); simp only [List.length_append, List.length_cons, List.length_nil, Nat.zero_add, Nat.reduceAdd]; intro sp5 cap5 w5 o5 b5 k5; have hr5 := k5 _ _ _ (by decide) (hr2.alloc _); have hc5 : w5.cell? ⟨g, 0, none⟩ = some (.slice sp bs.length cap) := hr5.cell; have hf5 := hr5.frozen (j := 0)))
    go_end0
    exact ⟨rfl, (hb2.trans (((Below.refl B w2).alloc hB2 _).trans b5)).setCell hBg _, RW.stored hBg hr5 (by simp) o5⟩
  · have hd : decide (n < 1) = false := by simpa using h
    rw [show (decide (n < 1) || decide (1000 < n)) = decide (1000 < n) by simp [h]]
    have hwr := wrong_any (decide (1000 < n)) 1 w B g E bs hW
    generalize firstE E (decide (1000 < n)) 1 = E2 at *
    go_enter Try.func25, Try.ntmps25
    go_wp2_with first | (go_at_call 41; (with_reducible refine Calls.mono (hwr) ?_); rintro e w2 ⟨rfl, hb2, hW2⟩; obtain ⟨hBg, sp, cap, hr2, ho2⟩ := hW2; have hc2 : w2.cell? ⟨g, 0, none⟩ = some (.slice sp bs.length cap) := hr2.cell; have hB2 := Nat.le_trans hB hb2.size) | (at_builtin; (refine append8k (.tmp 16) (.tmp 28) 25 5 (by rfl) (by rfl) B Try.underlying25 info5 (.slice sp bs.length cap) bs (by rfl) ?ho (some ⟨w2.heap.size, 0, none⟩) 4 4 [n / 16777216 % 256, n / 65536 % 256, n / 256 % 256, n % 256] (by rfl) rfl ?hnil ?hby ?hlen ?hB ?_; (case ho => exact (ho2.alloc _)); (case hnil => exact (fun h => by cases h)); (case hby => exact (bytes_new w2 5 [n / 16777216 % 256, n / 65536 % 256, n / 256 % 256, n % 256])); (case hlen => omega); (case hB => exact Nat.le_trans hB2 (by simp)); simp only [List.length_append, List.length_cons, List.length_nil, Nat.zero_add, Nat.reduceAdd]; intro sp5 cap5 w5 o5 b5 k5; have hr5 := k5 _ _ _ (by decide) (hr2.alloc _); have hc5 : w5.cell? ⟨g, 0, none⟩ = some (.slice sp bs.length cap) := hr5.cell; have hf5 := hr5.frozen (j := 0)))
    go_end0
    exact ⟨rfl, (hb2.trans (((Below.refl B w2).alloc hB2 _).trans b5)).setCell hBg _, RW.stored hBg hr5 (by simp) o5⟩
end Go.Proofs.Ytcdmjjlbeifgjaa
