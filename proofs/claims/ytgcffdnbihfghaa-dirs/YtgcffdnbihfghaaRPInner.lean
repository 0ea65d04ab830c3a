/- The reference's ParseInner: any bytes. No old memory turns. -/
import Derived.Test.YtgcffdnbihfghaaIds
import Derived.Test.YtgcffdnbihfghaaRParse
import Derived.Great.BuildSlice
namespace Go.Proofs.Ytgcffdnbihfghaa
open Go Go.RowKit
def qErr (b : List Int) : Int := if b.length < 2 then 8 else if gi b 0 ≠ 110 ∨ gi b 1 < 1 ∨ 8 < gi b 1 then 11 else if (b.length : Int) < 2 + 32 * gi b 1 then 8 else if 2 + 32 * gi b 1 < (b.length : Int) then 9 else 0
def qN (b : List Int) : Nat := if qErr b = 0 then (gi b 1).toNat else 0
def qF (b : List Int) : List Int := if qErr b = 0 then b.drop 2 else []
theorem q_ok {b : List Int} (h : qErr b = 0) : ∃ n : Nat, gi b 1 = n ∧ 1 ≤ n ∧ n ≤ 8 ∧ b.length = 2 + 32 * n ∧ gi b 0 = 110 ∧ qN b = n ∧ qF b = b.drop 2 ∧ (qF b).length = 32 * n := by
  have h' := h
  unfold qErr at h
  by_cases h1 : b.length < 2
  · rw [if_pos h1] at h; exact absurd h (by decide)
  rw [if_neg h1] at h
  by_cases h2 : gi b 0 ≠ 110 ∨ gi b 1 < 1 ∨ 8 < gi b 1
  · rw [if_pos h2] at h; exact absurd h (by decide)
  rw [if_neg h2] at h
  by_cases h3 : (b.length : Int) < 2 + 32 * gi b 1
  · rw [if_pos h3] at h; exact absurd h (by decide)
  rw [if_neg h3] at h
  by_cases h4 : 2 + 32 * gi b 1 < (b.length : Int)
  · rw [if_pos h4] at h; exact absurd h (by decide)
  obtain ⟨n, hn⟩ : ∃ n : Nat, gi b 1 = n := ⟨_, (Int.toNat_of_nonneg (by omega)).symm⟩
  have hl : b.length = 2 + 32 * n := by omega
  refine ⟨n, hn, by omega, by omega, hl, by omega, by unfold qN; rw [if_pos h', hn]; rfl, by unfold qF; rw [if_pos h'], by unfold qF; rw [if_pos h']; simp; omega⟩
/-- What a reader of inner blocks answers. -/
def ReadsI (N : Nat) (E : Int) (F : List Int) (w : World) (e : Ending) (w' : World) : Prop :=
  ∃ sp cap, e = .returned (.tuple #[.slice sp N cap, .int .i64 E]) ∧ Bytes w' sp F ∧ F.length = 32 * N ∧ Below w.heap.size w w'
theorem q_bad {b : List Int} {E : Int} (h : qErr b = E) (hE : E ≠ 0) : qN b = 0 ∧ qF b = [] := by unfold qN qF; rw [h, if_neg hE, if_neg hE]; exact ⟨rfl, rfl⟩

theorem fill_one (f : Nat → Int) : Instr.fill (fun i => some (i * 32, 32)) ((Array.range 32).map (#[.int .u8 0, .int .u8 0, .int .u8 0, .int .u8 0, .int .u8 0, .int .u8 0, .int .u8 0, .int .u8 0, .int .u8 0, .int .u8 0, .int .u8 0, .int .u8 0, .int .u8 0, .int .u8 0, .int .u8 0, .int .u8 0, .int .u8 0, .int .u8 0, .int .u8 0, .int .u8 0, .int .u8 0, .int .u8 0, .int .u8 0, .int .u8 0, .int .u8 0, .int .u8 0, .int .u8 0, .int .u8 0, .int .u8 0, .int .u8 0, .int .u8 0, .int .u8 0][· % 32]!)) [(0, .agg (v8 ((List.range 32).map f)))] = some (v8 ((List.range 32).map f)) := by kernel_rfl
theorem run_bs1 (C : List Int) (h : C.length = 32) (w : World) : (Instr.buildSlice 42 1 #[(0, .agg (v8 C))]).run Try.prog w = .ok (.slice (some ⟨w.heap.size, 0, none⟩) 1 1) (w.alloc (.cells (v8 C) 23)) := by
  obtain ⟨i, hi, hz, h1⟩ : ∃ i, Try.prog.info? 23 = some i ∧ i.zero = some (.agg #[.int .u8 0, .int .u8 0, .int .u8 0, .int .u8 0, .int .u8 0, .int .u8 0, .int .u8 0, .int .u8 0, .int .u8 0, .int .u8 0, .int .u8 0, .int .u8 0, .int .u8 0, .int .u8 0, .int .u8 0, .int .u8 0, .int .u8 0, .int .u8 0, .int .u8 0, .int .u8 0, .int .u8 0, .int .u8 0, .int .u8 0, .int .u8 0, .int .u8 0, .int .u8 0, .int .u8 0, .int .u8 0, .int .u8 0, .int .u8 0, .int .u8 0, .int .u8 0]) ∧ i.size = 32 := by
    have hinfo : (Try.prog.info? 23).map (fun i => (i.zero, i.size)) = some (some (.agg #[.int .u8 0, .int .u8 0, .int .u8 0, .int .u8 0, .int .u8 0, .int .u8 0, .int .u8 0, .int .u8 0, .int .u8 0, .int .u8 0, .int .u8 0, .int .u8 0, .int .u8 0, .int .u8 0, .int .u8 0, .int .u8 0, .int .u8 0, .int .u8 0, .int .u8 0, .int .u8 0, .int .u8 0, .int .u8 0, .int .u8 0, .int .u8 0, .int .u8 0, .int .u8 0, .int .u8 0, .int .u8 0, .int .u8 0, .int .u8 0, .int .u8 0, .int .u8 0]), 32) := by kernel_rfl
    cases hq : Try.prog.info? 23 with
    | none => simp [hq] at hinfo
    | some i => simp [hq] at hinfo; exact ⟨i, rfl, hinfo.1, hinfo.2⟩
  refine run_buildSlice w 42 23 1 #[(0, .agg (v8 C))] (v8 C) i _ Try.underlying42 hi hz (by rw [h1]; decide) (by rw [h1]; decide) ?_
  rw [h1, list_map C 32 h]
  exact fill_one (gi C)
theorem bs1_op {w : World} {ops : Array Oper} {rest : List Oper} {o : Oper} {a : Act} {Q : Exit → Act → World → Prop} (x : Operand) (ho : o.op = .buildSlice 42 1 #[(0, x)]) (hgd : o.guard = none) (C : List Int) (hx : a.eval x = .agg (v8 C)) (hC : C.length = 32)
    (h : wpList Try.prog ops Q rest (a.put o.dst (.slice (some ⟨w.heap.size, 0, none⟩) 1 1)) (w.alloc (.cells (v8 C) 23))) : wpList Try.prog ops Q (o :: rest) a w := by
  refine wpList_plain hgd fun _ hK => ?_
  have hr := run_bs1 C hC w
  unfold Oper.wp execOp
  simp only [ho, List.map_toArray, List.map_cons, List.map_nil, hx, Sem.run_bind, hr, Result.andThen_ok]
  exact hK _ _ h
set_option maxRecDepth 20000 in
set_option maxHeartbeats 2000000 in
theorem rparseI_any (b : List Int) (sp : Option Addr) (cap : Nat) (w : World) (hm : b.length ≤ 1000000) (hc : b.length ≤ cap) (hby : Bytes w sp b) (hy : By b) :
    Calls Try.prog 19 #[.slice sp b.length cap] w (ReadsI (qN b) (qErr b) (qF b) w) := by
  by_cases hl : b.length < 2
  · have hE : qErr b = 8 := by unfold qErr; rw [if_pos hl]
    obtain ⟨hN, hF⟩ := q_bad hE (by decide)
    rw [hE, hN, hF]
    clear hE hN hF
    generalize b.length = n at *
    go_enter Try.func19, Try.ntmps19
    go_wp2
    go_ret2
    exact ⟨none, 0, rfl, Bytes.nil _ _, rfl, Below.refl _ _⟩
  obtain ⟨p, o, rfl, hcl⟩ := hby (by omega)
  have c0 : w.cell? ⟨p, o, none⟩ = some (.int .u8 (gi b 0)) := hcl 0 (by omega)
  have c1 := hcl 1 (by omega)
  have hp : p < w.heap.size := block_lt_of_cell c0
  have q0 := gi_by hy 0 (by omega)
  have q1 := gi_by hy 1 (by omega)
  clear hcl
  by_cases h0 : gi b 0 = 110
  case neg =>
    have hE : qErr b = 11 := by unfold qErr; rw [if_neg hl, if_pos (.inl h0)]
    obtain ⟨hN, hF⟩ := q_bad hE (by decide)
    rw [hE, hN, hF]
    clear hE hN hF hby
    have h0b : (gi b 0 != 110) = true := by simpa using h0
    generalize b.length = n at *
    generalize gi b 0 = x0 at *
    generalize gi b 1 = x1 at *
    go_enter Try.func19, Try.ntmps19
    go_wp2
    go_ret2
    exact ⟨none, 0, rfl, Bytes.nil _ _, rfl, Below.refl _ _⟩
  rw [h0] at c0
  by_cases h1 : gi b 1 < 1
  · have hE : qErr b = 11 := by unfold qErr; rw [if_neg hl, if_pos (.inr (.inl h1))]
    obtain ⟨hN, hF⟩ := q_bad hE (by decide)
    rw [hE, hN, hF]
    clear hE hN hF hby h0
    generalize b.length = n at *
    generalize gi b 1 = x1 at *
    go_enter Try.func19, Try.ntmps19
    go_wp2
    go_ret2
    exact ⟨none, 0, rfl, Bytes.nil _ _, rfl, Below.refl _ _⟩
  by_cases h2 : 8 < gi b 1
  · have hE : qErr b = 11 := by unfold qErr; rw [if_neg hl, if_pos (.inr (.inr h2))]
    obtain ⟨hN, hF⟩ := q_bad hE (by decide)
    rw [hE, hN, hF]
    clear hE hN hF hby h0
    generalize b.length = n at *
    generalize gi b 1 = x1 at *
    go_enter Try.func19, Try.ntmps19
    go_wp2
    go_ret2
    exact ⟨none, 0, rfl, Bytes.nil _ _, rfl, Below.refl _ _⟩
  by_cases h3 : (b.length : Int) < 2 + 32 * gi b 1
  · have hE : qErr b = 8 := by unfold qErr; rw [if_neg hl, if_neg (by omega), if_pos h3]
    obtain ⟨hN, hF⟩ := q_bad hE (by decide)
    rw [hE, hN, hF]
    clear hE hN hF hby h0
    generalize b.length = n at *
    generalize gi b 1 = x1 at *
    go_enter Try.func19, Try.ntmps19
    go_wp2
    go_ret2
    exact ⟨none, 0, rfl, Bytes.nil _ _, rfl, Below.refl _ _⟩
  by_cases h4 : 2 + 32 * gi b 1 < (b.length : Int)
  · have hE : qErr b = 9 := by unfold qErr; rw [if_neg hl, if_neg (by omega), if_neg h3, if_pos h4]
    obtain ⟨hN, hF⟩ := q_bad hE (by decide)
    rw [hE, hN, hF]
    clear hE hN hF hby h0
    generalize b.length = n at *
    generalize gi b 1 = x1 at *
    go_enter Try.func19, Try.ntmps19
    go_wp2
    go_ret2
    exact ⟨none, 0, rfl, Bytes.nil _ _, rfl, Below.refl _ _⟩
  have hE : qErr b = 0 := by unfold qErr; rw [if_neg hl, if_neg (by omega), if_neg h3, if_neg h4]
  obtain ⟨n, hn, n1, n8, hlen, _, hN, hF, hFl⟩ := q_ok hE
  have hbF : Bytes w (some ⟨p, o + 2, none⟩) (qF b) := by rw [hF]; exact hby.drop 2
  rw [hE, hN]
  rw [hn] at c1 h1 h2 h3 h4 q1
  generalize qF b = F at *
  rw [hlen] at hc ⊢
  clear hE hN hF hby h0 hl hm hlen hy q0 hn
  obtain ⟨len, hln⟩ : ∃ len, 2 + 32 * n = len := ⟨_, rfl⟩
  rw [hln] at hc ⊢
  have hln' : Hid (2 + 32 * n = len) := ⟨hln⟩
  have e1 : (len : Int) = 2 + 32 * (n : Int) := by omega
  clear hln h3 h4
  go_enter Try.func19, Try.ntmps19
  go_wp2
  go_loopw [5, 6] (fun v i wr => ∃ (j : Nat) (sp : Option Addr) (cp : Nat), j ≤ n ∧ i = .int .i64 j ∧ v = .slice sp j cp ∧ OwnF wr w.heap.size (.slice sp j cp) j (F.take (32 * j)) ∧ Below w.heap.size w wr) (fun _ i _ => n - (intOf i).toNat)
  case atStart => exact ⟨0, none, 0, by omega, rfl, rfl, by simpa using ownF_none w _, Below.refl _ _⟩
  case round =>
    obtain ⟨j, sp2, cp, hj, rfl, rfl, ow, b2⟩ := hrel
    by_cases hjn : j < n
    · have hcl := cutF_len hFl hjn
      have hbc := bytes_cut (hbF.below b2) j
      have hid := fun wx len cp (h : Bytes wx (some ⟨p, o + (2 + 32 * j), none⟩) (cutF F j)) (h2 : 32 ≤ len) => id_any (cutF F j) p (o + (2 + 32 * j)) len cp wx h hcl h2
      have hcat : F.take (32 * j) ++ cutF F j = F.take (32 * (j + 1)) := take_cut F j
      have hbc2 : Bytes wr (some ⟨p, o + (2 + 32 * j), none⟩) (cutF F j) := by rw [show o + (2 + 32 * j) = o + 2 + j * 32 by omega]; exact hbc
      have hlj : 2 + 32 * j + 32 ≤ len := by have := hln'.out; omega
      have hs := b2.size
      have hcat' : Hid (F.take (32 * j) ++ cutF F j = F.take (32 * (j + 1))) := ⟨hcat⟩
      clear hcat hbc
      generalize cutF F j = C at *
      generalize F.take (32 * j) = FJ at *
      go_wp2_with (first | (go_at_call 38; (with_reducible refine Calls.mono (hid _ _ _ hbc2 ?h32) ?_); (case h32 => omega); rintro e w5 ⟨rfl, hb5⟩; have ow6 := (ow.below hb5 (Nat.le_refl _)).below ((Below.refl w5.heap.size w5).alloc (Nat.le_refl _) (.cells (v8 C) 23)) (Nat.le_refl _); have x1 : Bytes (w5.alloc (.cells (v8 C) 23)) (some ⟨w5.heap.size, 0, none⟩) C := (Row.new w5 23 (v8 C)).bytes; have b6 := (b2.trans (hb5.mono hs)).alloc (Nat.le_trans hs hb5.size) (.cells (v8 C) 23); have hs6 := b6.size) | (refine bs1_op (.tmp 49) (by rfl) (by rfl) C (by rfl) hcl ?_) | (at_builtin; (refine append23 (.tmp 43) (.tmp 50) (by rfl) (by rfl) w.heap.size (.slice sp2 j cp) j FJ (by rfl) ow6 w5.heap.size C (by rfl) hcl x1 (by omega) hs6 ?_; rw [hcat'.out]; intro sp5 cap5 w6 o6 b7)))
      go_roundw
      case rel => exact ⟨j + 1, sp5, cap5, by omega, by go_num, rfl, o6, b6.trans b7⟩
      case measure => simp [intOf]; omega
    · obtain rfl : j = n := by omega
      have hft : F.take (32 * j) = F := List.take_of_length_le (by omega)
      rw [hft] at ow
      go_wp2
      go_ret2
      exact ⟨sp2, cp, rfl, ow.bytes, hFl, b2⟩
end Go.Proofs.Ytgcffdnbihfghaa
