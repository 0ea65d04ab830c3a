/- names.Split, of every text: the error, and the names where there is none, in new memory; it turns no old memory. -/
import Derived.Test.YtkehpgegghhfpaaDoorJoin
namespace Go.Proofs.YtkehpgegghhfpaaDoor
open Go.RowKit

/-- internal/bytealg.MaxLen holds some number. -/
def MaxOk (w : World) : Prop := ∃ m : Int, w.cell? ⟨0, 0, none⟩ = some (.int .i64 m)
theorem MaxOk.below {w w' : World} {B : Nat} (h : MaxOk w) (hb : Below B w w') (hB : w.heap.size ≤ B) : MaxOk w' := by
  obtain ⟨m, hm⟩ := h
  have h2 := block_lt_of_cell hm
  exact ⟨m, by rw [hb.cell (p := ⟨0, 0, none⟩) (by simp only at h2 ⊢; omega)]; exact hm⟩
/-- What a Split answers: the error, and the names in memory. -/
def SplitPost (B : Nat) (w : World) (s : List UInt8) (e : Ending) (w' : World) : Prop :=
  ∃ (p : Option Addr) (c : Nat) (ys : List ByteArray), e = .returned (.tuple #[.slice p ys.length c, .int .i64 (splE s)]) ∧ Ls ys = splL s ∧ Strs w' p ys ∧ ys.length ≤ c ∧ Below B w w'
theorem SplitPost.none {w w' : World} {s : List UInt8} {E : Int} (h1 : splE s = E) (h2 : splL s = []) (hb : Below w.heap.size w w') : SplitPost w.heap.size w s (.returned (.tuple #[.slice none 0 0, .int .i64 E])) w' :=
  ⟨Option.none, 0, [], by rw [h1]; rfl, h2.symm, Strs.nil _ _, by simp, hb⟩

def stk : ByteArray := ⟨#[47]⟩
/-- The pieces that SplitN makes. -/
def pcs (r : ByteArray) : List ByteArray := Lib.splitB stk 0 (min 6 (r.size + 1) - 1) r
theorem pcs_all (r : ByteArray) : allE (Ls (pcs r)) = allE (cutL r.data.toList) ∧ (allE (cutL r.data.toList) = 0 → Ls (pcs r) = cutL r.data.toList) := by
  have h1 : Ls (pcs r) = Lib.splitK [47] 0 (min 6 (r.size + 1) - 1) r.data.toList := Lib.splitB_data _ _ _ _
  have h2 := cutL_len r.data.toList
  rw [size_data] at h2
  by_cases h : (cutL r.data.toList).length ≤ 6
  · have e := splitK_cut (min 6 (r.size + 1) - 1) r.data.toList (by omega)
    rw [h1, e]
    exact ⟨rfl, fun _ => rfl⟩
  · have e := splitK_many (min 6 (r.size + 1) - 1) r.data.toList (by omega)
    rw [← h1] at e
    have a1 : allE (cutL r.data.toList) = 4 := by unfold allE; rw [if_pos (by omega)]
    rw [a1]
    exact ⟨by unfold allE; rw [if_pos (by omega)], fun h => by simp at h⟩
theorem hasPre (s : List UInt8) : Lib.hasPrefix s [47] = (s.head? == some 47) := by
  cases s with
  | nil => rfl
  | cons b t => simp [Lib.hasPrefix, List.isPrefixOf]; rw [Bool.eq_iff_iff]; simp; exact eq_comm
theorem hasSuf (s : List UInt8) : Lib.hasSuffix s [47] = (s.getLast? == some 47) := by
  rw [Bool.eq_iff_iff]
  unfold Lib.hasSuffix
  rw [List.isSuffixOf_iff_suffix, beq_iff_eq]
  constructor
  · rintro ⟨t, rfl⟩; simp
  · intro h
    obtain ⟨ys, e⟩ := List.getLast?_eq_some_iff.1 h
    exact ⟨ys, e.symm⟩
theorem cells_at {l : List ByteArray} {N j : Nat} (h : j < l.length) : (Lib.cellsOf l N)[j]? = some (.string (l.getD j ByteArray.empty)) := by
  unfold Lib.cellsOf
  rw [List.getElem?_toArray, List.getElem?_append_left (by simpa using h)]
  simp [List.getD_eq_getElem?_getD, h]
theorem set_same {α : Type} (a : Array α) (j : Nat) (v : α) (h : a[j]? = some v) : a.setIfInBounds j v = a := by
  apply Array.ext_getElem?
  intro i
  rw [Array.getElem?_setIfInBounds]
  split
  · rename_i e; subst e
    split
    · exact h.symm
    · rename_i hn; rw [Array.getElem?_eq_none (by omega)]
  · rfl
theorem Row.setSame {w : World} {b j : Nat} {t : TypeId} {vs : Array Value} {v : Value} (h : Row w b t vs) (hv : vs[j]? = some v) : Row (w.setCell ⟨b, j, none⟩ v) b t vs := by
  have := heap_setCell_same w b j vs t v h
  rw [set_same _ _ _ hv] at this; exact this
theorem pcs_size (r : ByteArray) : ∀ x ∈ pcs r, x.size ≤ r.size := by
  have : ∀ k r, ∀ x ∈ Lib.splitB stk 0 k r, x.size ≤ r.size := by
    intro k
    induction k with
    | zero => intro r x hx; simp [Lib.splitB] at hx; subst hx; exact Nat.le_refl _
    | succ k ih =>
      intro r x hx
      unfold Lib.splitB at hx
      split at hx
      · simp at hx; subst hx; exact Nat.le_refl _
      · rcases List.mem_cons.1 hx with rfl | hx
        · rw [ByteArray.size_extract]; omega
        · have := ih _ x hx; rw [ByteArray.size_extract] at this; omega
  exact this _ r

set_option maxRecDepth 20000 in
theorem clone_any (x : ByteArray) (w : World) (h : x.size ≤ 281474976710656) : Calls Tryd.prog 26 #[.string x] w fun e w' => e = .returned (.string x) ∧ Below w.heap.size w w' := by
  go_enter Tryd.func26, Tryd.ntmps26
  go_wp2_with (go_at_call 34; refine (Tryd.stringslite_Clone x _ h).mono ?_; rintro e w2 ⟨rfl, hb⟩)
  go_ret
  exact ⟨rfl, hb⟩

set_option maxRecDepth 20000 in
set_option maxHeartbeats 1000000 in
theorem split_any (s : ByteArray) (w : World) (hs : s.size < 4294967281) (hm : MaxOk w) :
    Calls Tryd.prog 15 #[.string s] w (SplitPost w.heap.size w s.data.toList) := by
  obtain ⟨m, hm⟩ := hm
  by_cases h1 : s.data.toList = [47]
  · have q1 : (s.toList == [47]) = true := by rw [ByteArray.toList_eq, h1]; rfl
    have a1 : splE s.data.toList = 0 := by rw [h1]; decide
    have a2 : splL s.data.toList = [] := by rw [h1]; decide
    clear h1
    go_enter Tryd.func15, Tryd.ntmps15
    go_wp2
    go_ret2
    exact SplitPost.none a1 a2 (Below.refl _ _)
  have q1 : (s.toList == [47]) = false := by rw [ByteArray.toList_eq]; simpa using h1
  have p1 := Tryd.strings_CutPrefix s stk
  have p2 := fun w => Tryd.strings_HasSuffix s stk w (by omega)
  simp only [show stk.data.toList = [47] from rfl, hasPre, hasSuf] at p1 p2
  by_cases hb : badEnds s.data.toList = true
  · have a1 : splE s.data.toList = 10 := by unfold splE; rw [if_neg h1, if_pos hb]
    have a2 : splL s.data.toList = [] := by unfold splL; rw [if_neg h1, if_pos hb]
    unfold badEnds at hb
    generalize (s.data.toList.head? == some 47) = b1 at *
    generalize (s.data.toList.getLast? == some 47) = b2 at *
    generalize Lib.trimPrefix s.data.toList [47] = rest at *
    go_enter Tryd.func15, Tryd.ntmps15
    cases b1 <;> cases b2
    all_goals first | (simp at hb; done) | skip
    all_goals
      go_wp2_with (first | (go_at_call 23; refine (p1 _).mono ?_; rintro e w1 ⟨rfl, rfl⟩) | (go_at_call 24; refine (p2 _).mono ?_; rintro e w1 ⟨rfl, rfl⟩))
      go_ret2
      exact SplitPost.none a1 a2 (Below.refl _ _)
  have hb : badEnds s.data.toList = false := by simpa using hb
  have a0 : splE s.data.toList = allE (cutL (s.data.toList.drop 1)) := by unfold splE; rw [if_neg h1, if_neg (by simp [hb])]
  have a3 : splL s.data.toList = if allE (cutL (s.data.toList.drop 1)) = 0 then cutL (s.data.toList.drop 1) else [] := by unfold splL; rw [if_neg h1, if_neg (by simp [hb])]
  unfold badEnds at hb
  rw [Bool.or_eq_false_iff] at hb
  have hb1 : (s.data.toList.head? == some 47) = true := by simpa using hb.1
  have hb2 := hb.2
  rw [hb1] at p1
  rw [hb2] at p2
  have hr : Lib.trimPrefix s.data.toList [47] = s.data.toList.drop 1 := by
    unfold Lib.trimPrefix; rw [hasPre, hb1]; rfl
  rw [hr] at p1
  obtain ⟨r, hrd⟩ : ∃ r : ByteArray, r = ⟨(s.data.toList.drop 1).toArray⟩ := ⟨_, rfl⟩
  have hrl : r.data.toList = s.data.toList.drop 1 := by rw [hrd]
  have hrs : r.size ≤ s.size := by rw [← size_data r, hrl, List.length_drop, size_data]; omega
  rw [← hrd] at p1
  obtain ⟨c1, c2⟩ := pcs_all r
  rw [hrl, ← a0] at c1 c2
  rw [← a0] at a3
  have d1 : splE s.data.toList = 0 → Ls (pcs r) = splL s.data.toList := fun h => by rw [c2 h, a3, if_pos h]
  have d2 : splE s.data.toList ≠ 0 → splL s.data.toList = [] := fun h => by rw [a3, if_neg h]
  have hpl : (pcs r).length ≤ min 6 (r.size + 1) := by have := Lib.splitB_length_le stk 0 (min 6 (r.size + 1) - 1) r; unfold pcs; omega
  have hps := pcs_size r
  have p3 := Tryd.strings_SplitN r stk 6 m w (by omega) hm (by decide) (by decide) (by decide)
  change Calls _ _ _ _ fun e w' => e = .returned (.slice (some ⟨w.heap.size, 0, none⟩) (pcs r).length (min 6 (r.size + 1))) ∧ w' = w.alloc (.cells (Lib.cellsOf (pcs r) (min 6 (r.size + 1))) 9) at p3
  generalize hN : min 6 (r.size + 1) = N at *
  have hrow := Row.new w 9 (Lib.cellsOf (pcs r) N)
  have hbel : Below w.heap.size w (w.alloc (.cells (Lib.cellsOf (pcs r) N) 9)) := (Below.refl _ _).alloc (Nat.le_refl _) _
  have hsz1 : (w.alloc (.cells (Lib.cellsOf (pcs r) N) 9)).heap.size = w.heap.size + 1 := by simp
  generalize w.alloc (.cells (Lib.cellsOf (pcs r) N) 9) = w1 at *
  have hN6 : N ≤ 6 := by omega
  clear hrd hrl hr hb hb1 hb2 hN h1 hm a0 a3 c2
  have hst : Strs w1 (some ⟨w.heap.size, 0, none⟩) (pcs r) := fun _ => ⟨_, _, rfl, fun j hj => by rw [Nat.zero_add, hrow.cell, cells_at hj]⟩
  have p4 := fun w' hx => all_any (pcs r) (some ⟨w.heap.size, 0, none⟩) N w' hx (fun x h => by have := hps x h; omega)
  rw [c1] at p4
  by_cases hz : splE s.data.toList = 0
  · have hL := d1 hz
    clear d1 d2
    have fin : ∀ w', Row w' w.heap.size 9 (Lib.cellsOf (pcs r) N) → Below w.heap.size w w' → SplitPost w.heap.size w s.data.toList (.returned (.tuple #[.slice (some ⟨w.heap.size, 0, none⟩) (pcs r).length N, .int .i64 0])) w' := fun w' hr' hb' =>
      ⟨_, _, pcs r, by rw [hz], hL, fun _ => ⟨_, _, rfl, fun j hj => by rw [Nat.zero_add, hr'.cell, cells_at hj]⟩, hpl, hb'⟩
    rw [hz] at p4
    clear hz c1 hL
    generalize SplitPost w.heap.size w s.data.toList = Post at *
    generalize pcs r = ys at *
    go_enter Tryd.func15, Tryd.ntmps15
    go_wp2_with (first | (go_at_call 23; refine (p1 _).mono ?_; rintro e w2 ⟨rfl, hw⟩; obtain rfl := hw.symm; clear hw) | (go_at_call 24; refine (p2 _).mono ?_; rintro e w2 ⟨rfl, hw⟩; obtain rfl := hw.symm; clear hw) | (go_at_call 25; refine p3.mono ?_; rintro e w2 ⟨rfl, hw⟩; obtain rfl := hw.symm; clear hw) | (go_at_call 21; refine (p4 _ hst).mono ?_; rintro e w2 ⟨rfl, hb2⟩))
    have r2 := hrow.below hb2 (by omega)
    have b2 := hbel.trans (hb2.mono (by omega))
    clear hb2 hst hrow hbel p1 p2 p3 p4
    go_loopw [32] (fun i wr => ∃ k : Nat, i = .int .i64 k ∧ k ≤ ys.length ∧ Row wr w.heap.size 9 (Lib.cellsOf ys N) ∧ Below w.heap.size w wr) (fun i _ => ys.length - (intOf i).toNat)
    case atStart => exact ⟨0, rfl, by omega, r2, b2⟩
    case round =>
      obtain ⟨k, rfl, hk, hr3, hb3⟩ := hrel
      by_cases hlt : k < ys.length
      · have hcs := cells_at (N := N) hlt
        have hcell := hr3.cell (j := k)
        rw [hcs] at hcell
        have hsz : (ys.getD k ByteArray.empty).size ≤ r.size := by
          rw [List.getD_eq_getElem?_getD, List.getElem?_eq_getElem hlt]; exact hps _ (by simp)
        generalize ys.getD k ByteArray.empty = x at *
        clear r2 b2
        go_wp2_with (go_at_call 26; refine (clone_any x _ (by omega)).mono ?_; rintro e w3 ⟨rfl, hb4⟩; have r4 := hr3.below hb4 hr3.lt; have hcell := r4.cell (j := k); rw [hcs] at hcell; have hfz := r4.frozen (j := k); have b4 := hb3.trans (hb4.mono hb3.size))
        go_roundw
        case rel => exact ⟨k + 1, by go_num, by omega, r4.setSame hcs, b4.setCell (Nat.le_refl _) _⟩
        case measure => simp [intOf]; omega
      · obtain rfl : k = ys.length := by omega
        clear r2 b2
        go_wp2
        exact fin _ hr3 hb3
  · have hL := d2 hz
    have hz' : (splE s.data.toList != 0) = true := by simpa using hz
    have hz2 : (splE s.data.toList == 0) = false := by simpa using hz
    clear d1 d2
    have fin := fun w' hb' => SplitPost.none (w := w) (w' := w') rfl hL hb'
    generalize SplitPost w.heap.size w s.data.toList = Post at *
    generalize splE s.data.toList = E at *
    clear hL c1
    go_enter Tryd.func15, Tryd.ntmps15
    go_wp2_with (first | (go_at_call 23; refine (p1 _).mono ?_; rintro e w2 ⟨rfl, hw⟩; obtain rfl := hw.symm; clear hw) | (go_at_call 24; refine (p2 _).mono ?_; rintro e w2 ⟨rfl, hw⟩; obtain rfl := hw.symm; clear hw) | (go_at_call 25; refine p3.mono ?_; rintro e w2 ⟨rfl, hw⟩; obtain rfl := hw.symm; clear hw) | (go_at_call 21; refine (p4 _ hst).mono ?_; rintro e w2 ⟨rfl, hb2⟩))
    exact hbel.trans (hb2.mono (by omega))
end Go.Proofs.YtkehpgegghhfpaaDoor
