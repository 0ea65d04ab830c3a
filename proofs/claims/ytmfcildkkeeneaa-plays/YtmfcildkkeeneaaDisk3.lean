/- The disk of the program: Crash, Bytes, New. No condition but small numbers. -/
import Derived.Test.YtmfcildkkeeneaaDisk2
namespace Go.Proofs.Ytmfcildkkeeneaa
open Go Go.RowKit
theorem dk_cut {w : World} {g cap k : Nat} {sp : Option Addr} {d : D} (r1 : Row w g 61 (dc d sp cap)) (ho1 : Own8 w 0 5 (.slice sp d.bytes.length cap) d.bytes) (hk : k ≤ d.bytes.length) : Row (w.setCell ⟨g, 1, none⟩ (.slice sp k cap)) g 61 (dc { d with bytes := d.bytes.take k } sp cap) ∧ Own8 (w.setCell ⟨g, 1, none⟩ (.slice sp k cap)) 0 5 (.slice sp k cap) (d.bytes.take k) := by
  have hkl : (d.bytes.take k).length = k := by simp; omega
  have h1 := r1.set0 1 (.slice sp k cap)
  have h2 := ho1.front k hk
  refine ⟨?_, dk_set r1 (by decide) h2 1 _⟩
  unfold dc at h1 ⊢
  simp only [hkl]
  exact h1
set_option maxRecDepth 20000 in
set_option maxHeartbeats 1000000 in
theorem crash_any (d : D) (p : Int) (g h : Nat) (w : World) (hD : Dk w g h d) (hk : Ok d) :
    Calls Try.prog 17 #[.pointer (some ⟨g, 0, none⟩), .int .i64 p] w fun e w' => e = .returned (.int .i64 (stay d p)) ∧ Dk w' g h (dCrash d p) ∧ Fr [g] w w' := by
  have hb1 := hk.room
  have hb2 := hk.fits
  have hb3 := hk.syn
  obtain ⟨s1, s2⟩ := stay_le hb3 p
  have hpk := fun w1 => pick_any p ((d.bytes.length : Int) - d.syn + 1) w1 (by omega) (by omega)
  rw [← s2] at hpk
  have e0 : dCrash d p = { d with syn := d.syn + stay d p, bytes := d.bytes.take (d.syn + stay d p), left := 0, dead := false } := rfl
  rw [e0]
  clear e0 s2
  generalize stay d p = k at *
  obtain ⟨sp, cap, hr, ho, rfl⟩ := hD
  have c0 : w.cell? ⟨g, 0, none⟩ = some (.int .i64 d.room) := hr.cell
  have c1 : w.cell? ⟨g, 1, none⟩ = some (.slice sp d.bytes.length cap) := hr.cell
  have c2 : w.cell? ⟨g, 2, none⟩ = some (.int .i64 d.syn) := hr.cell
  have c3 : w.cell? ⟨g, 3, none⟩ = some (.int .i64 d.left) := hr.cell
  have c4 : w.cell? ⟨g, 4, none⟩ = some (.bool d.dead) := hr.cell
  have c5 : w.cell? ⟨g, 5, none⟩ = some (.int .i64 d.ops) := hr.cell
  have f1 := hr.frozen (j := 1)
  have f2 := hr.frozen (j := 2)
  have f3 := hr.frozen (j := 3)
  have f4 := hr.frozen (j := 4)
  have f5 := hr.frozen (j := 5)
  have hR0 := hr
  have hO0 := ho
  go_enter Try.func17, Try.ntmps17
  go_wp2
  refine wp_region_quiet_tail 12 (by kernel_rfl) (by kernel_rfl) ?_
  simp only [List.take_succ_cons, List.take_zero, List.drop_succ_cons, List.drop_zero]
  repeat (go_big_quiet_step (fail))
  refine wpQuiet_nil ?_
  rintro _ ⟨n1, rfl⟩
  replace hr : Row (w.drewN n1) g 61 (dc d sp cap) := hr
  replace ho : Own8 (w.drewN n1) 0 5 (.slice sp d.bytes.length cap) d.bytes := ho
  have hF0 : Fr [g] w (w.drewN n1) := (Fr.refl _ _).drewN _
  replace c2 : (w.drewN n1).cell? ⟨g, 2, none⟩ = some (.int .i64 d.syn) := hr.cell
  replace f2 := hr.frozen (j := 2)
  generalize w.drewN n1 = w1 at hr ho hF0 c2 f2 ⊢
  clear c0 c1 c3 c4 c5 f1 f3 f4 f5 hR0 hO0
  go_upto_region 3 with (go_at_call 28; (with_reducible refine Calls.mono (hpk _) ?_); rintro e w9 ⟨rfl, hw⟩; obtain rfl := hw.symm; clear hw)
  have r2 : Row (w1.setCell ⟨g, 2, none⟩ (.int .i64 ((d.syn : Int) + k))) g 61 (dc { d with syn := d.syn + k } sp cap) := by
    have := hr.set0 2 (.int .i64 ((d.syn : Int) + k))
    unfold dc at this ⊢
    simp only [Int.natCast_add]
    exact this
  have o2 := dk_set hr (by decide) ho 2 (.int .i64 ((d.syn : Int) + k))
  have hF2 := hF0.setCell (p := ⟨g, 2, none⟩) (by simp) (.int .i64 ((d.syn : Int) + k))
  generalize w1.setCell ⟨g, 2, none⟩ (.int .i64 ((d.syn : Int) + k)) = w2 at r2 o2 hF2 ⊢
  have c1 : w2.cell? ⟨g, 1, none⟩ = some (.slice sp d.bytes.length cap) := r2.cell
  have c2' : w2.cell? ⟨g, 2, none⟩ = some (.int .i64 ((d.syn : Int) + k)) := by
    have := r2.cell (j := 2)
    simpa [dc] using this
  have hlen : (d.bytes.take (d.syn + k)).length = d.syn + k := by simp; omega
  have hcap : d.syn + k ≤ cap := by
    rcases o2.row with ⟨_, _, h3, _⟩ | ⟨_, _, _, _, _, h3⟩
    · rw [h3] at s1; simp at s1; omega
    · omega
  have hfin : ∀ w3, (∃ n3, w3 = w2.drewN n3) → ∃ w4, w4 = ((w3.setCell ⟨g, 1, none⟩ (.slice sp (d.syn + k) cap)).setCell ⟨g, 3, none⟩ (.int .i64 0)).setCell ⟨g, 4, none⟩ (.bool false) ∧ Dk w4 g (bk sp g) { d with syn := d.syn + k, bytes := d.bytes.take (d.syn + k), left := 0, dead := false } ∧ Fr [g] w w4 := by
    rintro _ ⟨n3, rfl⟩
    refine ⟨_, rfl, ?_, ((((hF2.drewN n3).setCell (by simp) _).setCell (by simp) _).setCell (by simp) _)⟩
    obtain ⟨a1, a2⟩ := dk_cut (d := { d with syn := d.syn + k }) (r2.drewN n3) (o2.drewN n3) s1
    have a3 := a1.set0 3 (.int .i64 0)
    have a4 := dk_set a1 (by decide) a2 3 (.int .i64 0)
    refine ⟨sp, cap, a3.set0 4 (.bool false), ?_, rfl⟩
    show Own8 _ 0 5 (.slice sp (d.bytes.take (d.syn + k)).length cap) (d.bytes.take (d.syn + k))
    rw [hlen]
    exact dk_set a3 (by decide) a4 4 (.bool false)
  have hfz : ∀ n3 j, (w2.drewN n3).frozen? ⟨g, j, none⟩ = false := fun n3 j => (r2.drewN n3).frozen
  have hc1 : ∀ n3, (w2.drewN n3).cell? ⟨g, 1, none⟩ = some (.slice sp d.bytes.length cap) := fun n3 => (r2.drewN n3).cell
  have hc3 : ∀ n3, (w2.drewN n3).cell? ⟨g, 3, none⟩ = some (.int .i64 d.left) := fun n3 => (r2.drewN n3).cell
  have hc4 : ∀ n3, (w2.drewN n3).cell? ⟨g, 4, none⟩ = some (.bool d.dead) := fun n3 => (r2.drewN n3).cell
  clear hpk hr ho c2 f2 r2 o2 hF2 hF0 hk
  cases sp with
  | none =>
    refine wp_region_quiet_tail 10 (by kernel_rfl) (by kernel_rfl) ?_
    simp only [List.take_succ_cons, List.take_zero, List.drop_succ_cons, List.drop_zero]
    repeat (go_big_quiet_step (fail))
    refine wpQuiet_nil ?_
    rintro _ ⟨n3, rfl⟩
    obtain ⟨w4, h4, h5, h6⟩ := hfin _ ⟨n3, rfl⟩
    replace hfz := hfz n3
    replace hc1 := hc1 n3
    replace hc3 := hc3 n3
    replace hc4 := hc4 n3
    have z1 := hfz 1
    have z3 := hfz 3
    have z4 := hfz 4
    clear hfin hfz
    generalize w2.drewN n3 = w3 at *
    go_wp2
    go_ret
    subst h4
    exact ⟨rfl, h5, h6⟩
  | some ad =>
    refine wp_region_quiet_tail 10 (by kernel_rfl) (by kernel_rfl) ?_
    simp only [List.take_succ_cons, List.take_zero, List.drop_succ_cons, List.drop_zero]
    repeat (go_big_quiet_step (fail))
    refine wpQuiet_nil ?_
    rintro _ ⟨n3, rfl⟩
    obtain ⟨w4, h4, h5, h6⟩ := hfin _ ⟨n3, rfl⟩
    replace hfz := hfz n3
    replace hc1 := hc1 n3
    replace hc3 := hc3 n3
    replace hc4 := hc4 n3
    have z1 := hfz 1
    have z3 := hfz 3
    have z4 := hfz 4
    clear hfin hfz
    generalize w2.drewN n3 = w3 at *
    go_wp2
    go_ret
    subst h4
    exact ⟨rfl, h5, h6⟩
theorem madeCells_rep (z : Value) (n : Nat) (hz : z.cells = #[z]) : madeCells z.cells n = (List.replicate n z).toArray := by
  apply Array.ext
  · simp [size_madeCells]
  · intro i h1 h2
    simp [madeCells, hz, Nat.mod_one]
/-- So many noughts. -/
def zer (n : Nat) : List Int := List.replicate n 0
theorem zer_length (n : Nat) : (zer n).length = n := List.length_replicate
theorem make8 (n : Nat) (k : Int) (hk : k = n) (hn : n ≤ 1099511627776) (W : World) : (Instr.makeSlice 38 (.int .i64 k) (.int .i64 k)).run Try.prog W = .ok (.slice (some ⟨W.heap.size, 0, none⟩) n n) (W.alloc (.cells (v8 (zer n)) 5)) := by
  obtain ⟨i, hi, hz, h1, h2⟩ : ∃ i, Try.prog.info? 5 = some i ∧ i.zero = some (.int .u8 0) ∧ i.size = 1 ∧ i.bytes = 1 := by
    have hinfo := info5
    cases hq : Try.prog.info? 5 with
    | none => simp [hq] at hinfo
    | some i => simp [hq] at hinfo; exact ⟨i, rfl, hinfo.1, hinfo.2.1, hinfo.2.2⟩
  subst hk
  rw [run_make W 38 5 i (.int .u8 0) Try.underlying38 hi hz .i64 .i64 n n (by omega) (by omega) (by rw [h2]; omega) (by omega), madeCells_rep _ _ rfl, h1]
  simp [v8, zer]
theorem run_str (w : World) (sp : Option Addr) (n cap : Nat) (cs : List Int) (hn : cs.length = n) (hb : Bytes w sp cs) : (convert 38 9 (.slice sp n cap)).run Try.prog w = .ok (.string (strOfNums cs)) w := by
  subst hn
  by_cases h : 0 < cs.length
  · obtain ⟨b, o, rfl, hc⟩ := hb h
    exact run_convert_bytes_arg w 38 5 Try.underlying38 Try.underlying5 b o _ cap cs rfl hc 9 Try.underlying9
  · have h0 : cs = [] := List.eq_nil_of_length_eq_zero (by omega)
    subst h0
    rw [run_convert_bytes_string w 38 9 5 sp _ cap Try.underlying38 Try.underlying5 Try.underlying9]
    cases sp <;> simp [Conv.bytesToString, strOfNums, loadCells, loadCellsFrom] <;> rfl
theorem below_setRow {w0 w : World} {B g : Nat} (h : Below B w0 w) (hg : B ≤ g) (cs : Array Value) : Below B w0 (w.setRow g cs) :=
  ⟨h.os, h.tape, h.output, by have := h.size; simpa [World.setRow] using this, fun k hk => by rw [setRow_other w g k cs (by omega)]; exact h.block k hk⟩
theorem spl_all (l cs : List Int) (h : cs.length = l.length) : spl l 0 cs = cs := by
  simp [spl, h]
set_option maxRecDepth 20000 in
set_option maxHeartbeats 1000000 in
theorem bytes_any (d : D) (g h : Nat) (w : World) (hD : Dk w g h d) (hk : Ok d) :
    Calls Try.prog 22 #[.pointer (some ⟨g, 0, none⟩)] w fun e w' => e = .returned (.slice (some ⟨w.heap.size, 0, none⟩) d.bytes.length d.bytes.length) ∧ Row w' w.heap.size 5 (v8 d.bytes) ∧ Below w.heap.size w w' := by
  have hb1 := hk.room
  have hb2 := hk.fits
  obtain ⟨sp, cap, hr, ho, rfl⟩ := hD
  have c0 : w.cell? ⟨g, 0, none⟩ = some (.int .i64 d.room) := hr.cell
  have c1 : w.cell? ⟨g, 1, none⟩ = some (.slice sp d.bytes.length cap) := hr.cell
  have c2 : w.cell? ⟨g, 2, none⟩ = some (.int .i64 d.syn) := hr.cell
  have c3 : w.cell? ⟨g, 3, none⟩ = some (.int .i64 d.left) := hr.cell
  have c4 : w.cell? ⟨g, 4, none⟩ = some (.bool d.dead) := hr.cell
  have c5 : w.cell? ⟨g, 5, none⟩ = some (.int .i64 d.ops) := hr.cell
  have f1 := hr.frozen (j := 1)
  have f2 := hr.frozen (j := 2)
  have f3 := hr.frozen (j := 3)
  have f4 := hr.frozen (j := 4)
  have f5 := hr.frozen (j := 5)
  have hmk := make8 d.bytes.length (d.bytes.length : Int) rfl (by omega)
  have hrz := Row.new w 5 (v8 (zer d.bytes.length))
  have hra := hr.alloc (.cells (v8 (zer d.bytes.length)) 5)
  have hba : Bytes (w.alloc (.cells (v8 (zer d.bytes.length)) 5)) sp d.bytes := (Own8.bytes (ho.below ((Below.refl _ _).alloc (Nat.le_refl _) _) (Nat.le_refl _)))
  have hbl : Below w.heap.size w (w.alloc (.cells (v8 (zer d.bytes.length)) 5)) := (Below.refl _ _).alloc (Nat.le_refl _) _
  have c1' : (w.alloc (.cells (v8 (zer d.bytes.length)) 5)).cell? ⟨g, 1, none⟩ = some (.slice sp d.bytes.length cap) := hra.cell
  go_enter Try.func22, Try.ntmps22
  go_upto_region 2 with (fail)
  generalize w.alloc (.cells (v8 (zer d.bytes.length)) 5) = w1 at *
  go_wp2_with (refine copy8 (.tmp 10) (.tmp 14) 38 38 (by rfl) (by rfl) 5 Try.underlying38 (by kernel_rfl) (some ⟨w.heap.size, 0, none⟩) sp d.bytes.length d.bytes.length d.bytes.length cap (by rfl) (by rfl) w.heap.size 0 (zer d.bytes.length) 5 hrz d.bytes (by simp) (fun _ => rfl) hba (by rw [zer_length]; omega) ?_; rw [spl_all _ _ (zer_length _).symm])
  go_ret
  exact ⟨rfl, hrz.setRow _, below_setRow hbl (Nat.le_refl _) _⟩
def dNew (room : Int) : D := ⟨room, [], 0, 0, false, 0⟩
theorem ok_new {room : Int} (h : 1 ≤ room ∧ room ≤ 16777216) : Ok (dNew room) := ⟨h, by show ((([] : List Int).length : Nat) : Int) ≤ room; simp; omega, Nat.le_refl _, ⟨Int.le_refl _, by show (0 : Int) ≤ _; decide⟩, ⟨Int.le_refl _, by show (0 : Int) ≤ _; decide⟩⟩
set_option maxRecDepth 20000 in
set_option maxHeartbeats 1000000 in
theorem new_any (room : Int) (w : World) (h : 1 ≤ room ∧ room ≤ 16777216) :
    Calls Try.prog 9 #[.int .i64 room] w fun e w' => e = .returned (.tuple #[.pointer (some ⟨w.heap.size, 0, none⟩), .int .i64 0]) ∧ Dk w' w.heap.size w.heap.size (dNew room) ∧ Below w.heap.size w w' := by
  go_enter Try.func9, Try.ntmps9
  go_wp2
  go_ret2
  exact ⟨rfl, ⟨none, 0, Row.new w 61 _, own8_nil _, rfl⟩, (Below.refl _ _).alloc (Nat.le_refl _) _⟩
set_option maxRecDepth 20000 in
set_option maxHeartbeats 1000000 in
theorem new_bad (room : Int) (w : World) (h : ¬ (1 ≤ room ∧ room ≤ 16777216)) :
    Calls Try.prog 9 #[.int .i64 room] w fun e w' => e = .returned (.tuple #[.pointer none, .int .i64 1]) ∧ w' = w := by
  by_cases h1 : room < 1
  · go_enter Try.func9, Try.ntmps9
    go_wp2
    go_ret2
    exact ⟨rfl, rfl⟩
  · have h2 : room > 16777216 := by omega
    go_enter Try.func9, Try.ntmps9
    go_wp2
    go_ret2
    exact ⟨rfl, rfl⟩
end Go.Proofs.Ytmfcildkkeeneaa
