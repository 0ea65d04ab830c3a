/- The reference's Split, of every text: the same as the plain cutting says; it turns no old memory. -/
import Derived.Test.YtkehpgegghhfpaaDoorSplit
import Derived.Laws.AppendOwn
import Derived.Laws.OwnMore
import Derived.OwnWalk
namespace Go.Proofs.YtkehpgegghhfpaaDoor
open Go.RowKit

theorem info9 : (Tryd.prog.info? 9).map (fun i => (i.zero, i.size, i.bytes)) = some (some (.string ⟨#[]⟩), 1, 16) := by kernel_rfl
theorem ends_of {l : List UInt8} {n : Nat} (hl : l.length = n + 1) : badEnds l = (!(bt l 0 == 47) || bt l n == 47) := by
  have h0 : 0 < l.length := by omega
  have e1 : (l.head? == some 47) = (bt l 0 == 47) := by
    cases l with
    | nil => simp at h0
    | cons b t =>
      simp only [List.head?_cons, bt, List.getD_cons_zero]
      rw [Bool.eq_iff_iff]; simp only [beq_iff_eq, Option.some.injEq]
      constructor
      · rintro rfl; rfl
      · intro h; exact UInt8.toNat_inj.1 h
  have e2 : (l.getLast? == some 47) = (bt l n == 47) := by
    have hn : n < l.length := by omega
    rw [List.getLast?_eq_getElem?, hl, Nat.add_sub_cancel, List.getElem?_eq_getElem hn]
    simp only [bt, List.getD_eq_getElem?_getD, List.getElem?_eq_getElem hn, Option.getD]
    rw [Bool.eq_iff_iff]; simp only [beq_iff_eq, Option.some.injEq]
    constructor
    · intro h; rw [h]; rfl
    · intro h; exact UInt8.toNat_inj.1 h
  unfold badEnds
  rw [e1, e2]

set_option maxRecDepth 20000 in
theorem rsplit_root (s : ByteArray) (w : World) (h1 : s.data.toList = [47]) : Calls Tryd.prog 17 #[.string s] w (SplitPost w.heap.size w s.data.toList) := by
  have q1 : (s.toList == [47]) = true := by rw [ByteArray.toList_eq, h1]; rfl
  have a1 : splE s.data.toList = 0 := by rw [h1]; decide
  have a2 : splL s.data.toList = [] := by rw [h1]; decide
  clear h1
  go_enter Tryd.func17, Tryd.ntmps17
  go_wp2
  go_ret2
  exact SplitPost.none a1 a2 (Below.refl _ _)

set_option maxRecDepth 20000 in
set_option maxHeartbeats 1000000 in
theorem rsplit_bad (s : ByteArray) (w : World) (h1 : s.data.toList ≠ [47]) (hb : badEnds s.data.toList = true) (hs : s.size ≤ 4611686018427387904) :
    Calls Tryd.prog 17 #[.string s] w (SplitPost w.heap.size w s.data.toList) := by
  have q1 : (s.toList == [47]) = false := by rw [ByteArray.toList_eq]; simpa using h1
  have a1 : splE s.data.toList = 10 := by unfold splE; rw [if_neg h1, if_pos hb]
  have a2 : splL s.data.toList = [] := by unfold splL; rw [if_neg h1, if_pos hb]
  by_cases h0 : s.size = 0
  · go_enter Tryd.func17, Tryd.ntmps17
    go_wp2
    go_ret2
    exact SplitPost.none a1 a2 (Below.refl _ _)
  · obtain ⟨n, hn⟩ : ∃ n, s.size = n + 1 := ⟨s.size - 1, by omega⟩
    rw [ends_of (n := n) (by rw [size_data]; exact hn)] at hb
    have hi : (s.size : Int) - 1 = n := by omega
    have hi2 : n < s.size := by omega
    have hi0 : 0 < s.size := by omega
    have z0 : ((s.size : Int) == 0) = false := by rw [beq_eq_false_iff_ne]; omega
    clear h0 hn
    have k0 : (s[0]'hi0).toNat = bt s.data.toList 0 := by
      have := get_drop s 0 0
      rw [List.drop_zero] at this
      rw [← this, get_at]
    have kn : (s[n]'hi2).toNat = bt s.data.toList n := by
      have := get_drop s 0 n
      rw [List.drop_zero, Nat.zero_add] at this
      rw [← this]; exact congrArg _ (get_at s n hi2).symm
    have e0 : (((bt s.data.toList 0 : Nat) : Int) == 47) = (bt s.data.toList 0 == 47) := by rw [Bool.eq_iff_iff]; simp; omega
    have en : (((bt s.data.toList n : Nat) : Int) == 47) = (bt s.data.toList n == 47) := by rw [Bool.eq_iff_iff]; simp; omega
    generalize (bt s.data.toList 0 == 47) = b1 at *
    generalize (bt s.data.toList n == 47) = b2 at *
    have e0' : (((bt s.data.toList 0 : Nat) : Int) != 47) = !b1 := by rw [bne, e0]
    go_enter Tryd.func17, Tryd.ntmps17
    cases b1 <;> cases b2
    all_goals first | (simp at hb; done) | skip
    all_goals
      go_wp2
      go_ret2
      exact SplitPost.none a1 a2 (Below.refl _ _)

/-- Where the loop that cuts stands: what was cut, and what is left. -/
def Cut (l : List UInt8) (a i : Nat) (ds : List ByteArray) : Prop :=
  (i ≤ l.length ∧ a ≤ i ∧ Ls ds ++ cutL (l.drop a) = cutL (l.drop 1) ∧ (47 : UInt8) ∉ (l.drop a).take (i - a)) ∨ (i = l.length + 1 ∧ Ls ds = cutL (l.drop 1))
theorem ext_data (s : ByteArray) (a i : Nat) : (s.extract a i).data.toList = (s.data.toList.drop a).take (i - a) := by
  rw [ByteArray.data_extract, Array.toList_extract]
theorem Ls_snoc (ds : List ByteArray) (x : ByteArray) : Ls (ds ++ [x]) = Ls ds ++ [x.data.toList] := by simp [Ls]
theorem drop_split (l : List UInt8) (a i : Nat) (ha : a ≤ i) (h : i < l.length) : l.drop a = (l.drop a).take (i - a) ++ l[i] :: l.drop (i + 1) := by
  conv => lhs; rw [← List.take_append_drop (i - a) (l.drop a)]
  rw [List.drop_drop, show a + (i - a) = i by omega, List.drop_eq_getElem_cons h]
theorem bt_get (l : List UInt8) (i : Nat) (h : i < l.length) : bt l i = l[i].toNat := by
  simp [bt, List.getD_eq_getElem?_getD, h]
theorem Cut.stroke {s : ByteArray} {a i : Nat} {ds : List ByteArray} (h : Cut s.data.toList a i ds) (hi : i < s.size) (hb : bt s.data.toList i = 47) : Cut s.data.toList (i + 1) (i + 1) (ds ++ [s.extract a i]) := by
  have hl : s.data.toList.length = s.size := size_data s
  rcases h with ⟨h1, h2, h3, h4⟩ | ⟨h1, _⟩
  · left
    have hi' : i < s.data.toList.length := by omega
    have hv : s.data.toList[i] = 47 := by rw [bt_get _ _ hi'] at hb; exact UInt8.toNat_inj.1 hb
    have e := drop_split s.data.toList a i h2 hi'
    rw [hv] at e
    refine ⟨by omega, by omega, ?_, by simp⟩
    rw [Ls_snoc, ext_data, ← h3, e, cutL_stroke _ _ h4, List.append_assoc]
    congr 1
    rw [← e]; rfl
  · omega
theorem Cut.last {s : ByteArray} {a : Nat} {ds : List ByteArray} (h : Cut s.data.toList a s.size ds) (b : Nat) : Cut s.data.toList b (s.size + 1) (ds ++ [s.extract a s.size]) := by
  have hl : s.data.toList.length = s.size := size_data s
  rcases h with ⟨h1, h2, h3, h4⟩ | ⟨h1, _⟩
  · right
    refine ⟨by omega, ?_⟩
    have e : (s.data.toList.drop a).take (s.size - a) = s.data.toList.drop a := List.take_of_length_le (by rw [List.length_drop]; omega)
    rw [e] at h4
    rw [Ls_snoc, ext_data, ← h3, cutL_plain _ h4, e]
  · omega
theorem Cut.next {s : ByteArray} {a i : Nat} {ds : List ByteArray} (h : Cut s.data.toList a i ds) (hi : i < s.size) (hb : bt s.data.toList i ≠ 47) : Cut s.data.toList a (i + 1) ds := by
  have hl : s.data.toList.length = s.size := size_data s
  rcases h with ⟨h1, h2, h3, h4⟩ | ⟨h1, _⟩
  · left
    have hi' : i < s.data.toList.length := by omega
    refine ⟨by omega, by omega, h3, ?_⟩
    rw [show i + 1 - a = (i - a) + 1 by omega, List.take_add_one, List.getElem?_drop, show a + (i - a) = i by omega, List.getElem?_eq_getElem hi']
    simp only [Option.toList, List.mem_append, List.mem_singleton, not_or]
    refine ⟨h4, fun e => hb ?_⟩
    rw [bt_get _ _ hi', ← e]; rfl
  · omega
theorem Cut.done {l : List UInt8} {a i : Nat} {ds : List ByteArray} (h : Cut l a i ds) (hi : ¬ i ≤ l.length) : Ls ds = cutL (l.drop 1) := by
  rcases h with ⟨h1, _⟩ | ⟨_, h2⟩
  · omega
  · exact h2
theorem Cut.a_le {l : List UInt8} {a i : Nat} {ds : List ByteArray} (h : Cut l a i ds) (hi : i ≤ l.length) : a ≤ i := by
  rcases h with ⟨_, h2, _⟩ | ⟨h1, _⟩ <;> omega
theorem strs_of_own {w : World} {base n : Nat} {v : Value} {ds : List ByteArray} (h : w.ownsRow base 9 1 v n (ds.map Value.string)) (hn : n = ds.length) : ∃ p c, v = .slice p ds.length c ∧ Strs w p ds ∧ ds.length ≤ c := by
  subst hn
  obtain ⟨h1, ⟨rfl, h2⟩ | ⟨g, cap, cur, rfl, hb, hh, hn, hm, hc, ht⟩⟩ := h
  · have : ds = [] := List.eq_nil_of_length_eq_zero h2
    subst this
    exact ⟨none, 0, rfl, Strs.nil _ _, by simp⟩
  · refine ⟨some ⟨g, 0, none⟩, cap, rfl, fun _ => ⟨g, 0, rfl, fun j hj => ?_⟩, hn⟩
    rw [Nat.zero_add, cell_of_row w g j cur 9 (0, 0) hh]
    have := congrArg (fun l => l[j]?) ht
    simp only [Nat.mul_one, List.getElem?_take, hj, if_true] at this
    rw [← Array.getElem?_toList, this]
    simp [List.getD_eq_getElem?_getD, hj]

set_option maxRecDepth 20000 in
set_option maxHeartbeats 1000000 in
theorem rsplit_good (s : ByteArray) (w : World) (h1 : s.data.toList ≠ [47]) (hb : badEnds s.data.toList = false) (hs : s.size ≤ 4294967296) :
    Calls Tryd.prog 17 #[.string s] w (SplitPost w.heap.size w s.data.toList) := by
  have q1 : (s.toList == [47]) = false := by rw [ByteArray.toList_eq]; simpa using h1
  have a0 : splE s.data.toList = allE (cutL (s.data.toList.drop 1)) := by unfold splE; rw [if_neg h1, if_neg (by simp [hb])]
  have a3 : splL s.data.toList = if allE (cutL (s.data.toList.drop 1)) = 0 then cutL (s.data.toList.drop 1) else [] := by unfold splL; rw [if_neg h1, if_neg (by simp [hb])]
  have hsz := size_data s
  have hne : s.size ≠ 0 := fun h => by
    have : s.data.toList = [] := List.eq_nil_of_length_eq_zero (by omega)
    rw [this] at hb; simp [badEnds] at hb
  obtain ⟨n, hn⟩ : ∃ n, s.size = n + 1 := ⟨s.size - 1, by omega⟩
  rw [ends_of (n := n) (by rw [size_data]; exact hn)] at hb
  have hi : (s.size : Int) - 1 = n := by omega
  have hi2 : n < s.size := by omega
  have hi0 : 0 < s.size := by omega
  have z0 : ((s.size : Int) == 0) = false := by rw [beq_eq_false_iff_ne]; omega
  clear hne hn
  have hget : ∀ i (h : i < s.size), (s[i]'h).toNat = bt s.data.toList i := fun i h => by
    have := get_drop s 0 i
    rw [List.drop_zero, Nat.zero_add] at this
    rw [← this]; exact congrArg _ (get_at s i h).symm
  have k0 := hget 0 hi0
  have kn := hget n hi2
  rw [Bool.or_eq_false_iff] at hb
  have f0 : bt s.data.toList 0 = 47 := by simpa using hb.1
  have fn : bt s.data.toList n ≠ 47 := by simpa using hb.2
  have en : (((bt s.data.toList n : Nat) : Int) == 47) = false := by rw [beq_eq_false_iff_ne]; omega
  rw [f0] at k0
  obtain ⟨i9, j1, j2, j3, j4⟩ := info_parts info9
  have hcut0 : Cut s.data.toList 1 1 [] := Or.inl ⟨by omega, by omega, by simp [Ls], by simp⟩
  clear hb fn f0 h1
  generalize hL : s.data.toList = l at *
  go_enter Tryd.func17, Tryd.ntmps17
  go_wp2
  go_loopw [4, 5, 6] (fun v a i wr => ∃ (an im : Nat) (ds : List ByteArray), a = .int .i64 an ∧ i = .int .i64 im ∧ im ≤ s.size + 1 ∧ Cut l an im ds ∧ wr.ownsRow w.heap.size 9 1 v ds.length (ds.map Value.string) ∧ ds.length ≤ im ∧ Below w.heap.size w wr ∧ (∀ x ∈ ds, x.size ≤ s.size)) (fun _ _ i _ => s.size + 1 - (intOf i).toNat)
  case atStart => exact ⟨1, 1, [], rfl, rfl, by omega, hcut0, World.ownsRow_nil _ _ _ _, by simp, Below.refl _ _, by simp⟩
  case round =>
    obtain ⟨an, im, ds, rfl, rfl, hle, hcut, hown, hdl, hbe, hdz⟩ := hrel
    clear hcut0 k0 kn en z0 hi
    have hb0 := hbe.size
    have app : ∀ (v' : Value) (w1 : World), w1.ownsRow w.heap.size 9 1 v' (ds.length + 1) (ds.map Value.string ++ [.string (s.extract an im)]) → (wr.alloc (.cells #[.string (s.extract an im)] 9)).grownBy w1 u4.ownBlock →
        w1.ownsRow w.heap.size 9 1 v' (ds ++ [s.extract an im]).length ((ds ++ [s.extract an im]).map Value.string) ∧ Below w.heap.size w w1 ∧ (∀ x ∈ ds ++ [s.extract an im], x.size ≤ s.size) := fun v' w1 o g => by
      refine ⟨by simpa using o, ?_, fun x hx => ?_⟩
      · exact (hbe.alloc hb0 _).grown g (by simp; omega) (fun k hk => (hown.lt k hk).1)
      · rcases List.mem_append.1 hx with hx | hx
        · exact hdz x hx
        · rw [List.mem_singleton.1 hx, ByteArray.size_extract]; omega
    have hll : l.length = s.size := by rw [← hL]; exact size_data s
    by_cases hA : im ≤ s.size
    · have hal := hcut.a_le (by omega)
      by_cases hB : im = s.size
      · subst hB
        have hc2 := fun b => (hL ▸ Cut.last (s := s) (a := an) (ds := ds) (by rw [hL]; exact hcut) b : Cut l b (s.size + 1) (ds ++ [s.extract an s.size]))
        go_wp2_with (at_builtin; refine wpList_append_own _ rfl _ _ 31 rfl w.heap.size 9 i9 (.string ⟨#[]⟩) 1 16 Tryd.underlying31 j1 j2 j3 j4 rfl (by decide) _ _ _ rfl (hown.alloc _) ⟨wr.heap.size, 0, none⟩ 1 1 [.string (s.extract an s.size)] rfl rfl ?c1 ?c2 ?c3 ?c4 ?c5 ?_)
        case c1 =>
          intro j u hj
          match j, hj with
          | 0, hj => simp at hj; subst hj; simp [Addr.add]
        case c2 => intro u hu; simp at hu; subst hu; rfl
        case c3 => unfold maxLen; omega
        case c4 => omega
        case c5 => simp; omega
        intro v' w1 hown' hgrow _
        obtain ⟨r1, r2, r3⟩ := app v' w1 hown' hgrow
        clear hown' hgrow app hown hbe hdz
        go_wp2
        go_roundw
        case rel => exact ⟨s.size + 1, s.size + 1, _, by go_num, by go_num, by omega, hc2 _, r1, by simp; omega, r2, r3⟩
        case measure => simp [intOf]
      · have hlt : im < s.size := by omega
        have ki := hget im hlt
        have eB : ((im : Int) == (s.size : Int)) = false := by rw [beq_eq_false_iff_ne]; omega
        by_cases h47 : bt l im = 47
        · have hc2 : Cut l (im + 1) (im + 1) (ds ++ [s.extract an im]) := by
            subst hL; exact Cut.stroke hcut hlt h47
          rw [h47] at ki
          go_wp2_with (at_builtin; refine wpList_append_own _ rfl _ _ 31 rfl w.heap.size 9 i9 (.string ⟨#[]⟩) 1 16 Tryd.underlying31 j1 j2 j3 j4 rfl (by decide) _ _ _ rfl (hown.alloc _) ⟨wr.heap.size, 0, none⟩ 1 1 [.string (s.extract an im)] rfl rfl ?c1 ?c2 ?c3 ?c4 ?c5 ?_)
          case c1 =>
            intro j u hj
            match j, hj with
            | 0, hj => simp at hj; subst hj; simp [Addr.add]
          case c2 => intro u hu; simp at hu; subst hu; rfl
          case c3 => unfold maxLen; omega
          case c4 => omega
          case c5 => simp; omega
          intro v' w1 hown' hgrow _
          obtain ⟨r1, r2, r3⟩ := app v' w1 hown' hgrow
          clear hown' hgrow app hown hbe hdz
          go_wp2
          go_roundw
          case rel => exact ⟨im + 1, im + 1, _, by go_num, by go_num, by omega, hc2, r1, by simp; omega, r2, r3⟩
          case measure => simp [intOf]; omega
        · have hc2 : Cut l an (im + 1) ds := by
            subst hL; exact Cut.next hcut hlt h47
          have e47 : (((bt l im : Nat) : Int) == 47) = false := by rw [beq_eq_false_iff_ne]; omega
          clear app
          go_wp2
          go_roundw
          case rel => exact ⟨an, im + 1, _, rfl, by go_num, by omega, hc2, hown, by omega, hbe, hdz⟩
          case measure => simp [intOf]; omega
    · have hdone := hcut.done (by omega)
      have hA' : (s.size : Int) < (im : Int) := by omega
      obtain ⟨p, c, rfl, hst, hpc⟩ := strs_of_own hown rfl
      rw [← hdone] at a0 a3
      clear app hown hcut hdone
      have hLl : (Ls ds).length = ds.length := by simp [Ls]
      have hall : allE (Ls ds) = if 5 < ds.length then 4 else firstE (Ls ds) := by unfold allE; rw [hLl]
      by_cases h5 : 5 < ds.length
      · rw [if_pos h5] at hall
        have fin := SplitPost.none (w := w) (w' := wr) (s := l) (E := 4) (by rw [a0, hall]) (by rw [a3, hall]; rfl) hbe
        clear a0 a3 hall hLl
        go_wp2
        go_ret2
        exact fin
      · rw [if_neg h5] at hall
        rw [hall] at a0 a3
        clear hall hLl
        have d5 : decide ((5 : Int) < (ds.length : Int)) = false := by simp; omega
        go_wp2
        go_loop [7] (fun i => ∃ k : Nat, i = .int .i64 k ∧ k ≤ ds.length ∧ firstE (Ls (ds.drop k)) = firstE (Ls ds)) (fun i => ds.length - (intOf i).toNat)
        case atStart => exact ⟨0, rfl, by omega, rfl⟩
        case round =>
          obtain ⟨k, rfl, hk, hf⟩ := hrel
          by_cases hlt : k < ds.length
          · obtain ⟨b, o, rfl, hc⟩ := hst (by omega)
            have hcell := hc k hlt
            rw [firstE_at hlt] at hf
            have hsx : (ds.getD k ByteArray.empty).size ≤ s.size := by
              rw [List.getD_eq_getElem?_getD, List.getElem?_eq_getElem hlt]; exact hdz _ (by simp)
            generalize ds.getD k ByteArray.empty = x at *
            have hck := fun w => rcheck_any x w (by omega)
            clear hc
            generalize hC : chk x.data.toList = C at *
            by_cases hz : C = 0
            · rw [if_neg (by simpa using hz)] at hf
              subst hz
              go_wp2_with (go_at_call 12; refine (hck _).mono ?_; rintro e w1 ⟨rfl, hw⟩; obtain rfl := hw.symm; clear hw)
              go_round
              case rel => exact ⟨k + 1, by go_num, by omega, hf⟩
              case measure => simp [intOf]; omega
            · rw [if_pos hz] at hf
              have fin := SplitPost.none (w := w) (w' := wr) (s := l) (E := C) (by rw [a0, hf]) (by rw [a3, ← hf, if_neg hz]) hbe
              have hz' : (C != 0) = true := by simpa using hz
              have hz2 : (C == 0) = false := by simpa using hz
              clear hf a0 a3
              go_wp2_with (go_at_call 12; refine (hck _).mono ?_; rintro e w1 ⟨rfl, hw⟩; obtain rfl := hw.symm; clear hw)
              go_ret2
              exact fin
          · obtain rfl : k = ds.length := by omega
            have h0 : firstE (Ls (ds.drop ds.length)) = 0 := by simp [Ls, firstE]
            rw [h0] at hf
            have fin : SplitPost w.heap.size w l (.returned (.tuple #[.slice p ds.length c, .int .i64 0])) wr :=
              ⟨p, c, ds, by rw [a0, ← hf], by rw [a3, ← hf]; rfl, hst, hpc, hbe⟩
            clear a0 a3 hf h0
            go_wp2
            go_ret2
            exact fin

theorem rsplit_any (s : ByteArray) (w : World) (hs : s.size ≤ 4294967296) :
    Calls Tryd.prog 17 #[.string s] w (SplitPost w.heap.size w s.data.toList) := by
  by_cases h1 : s.data.toList = [47]
  · exact rsplit_root s w h1
  · cases hb : badEnds s.data.toList with
    | true => exact rsplit_bad s w h1 hb (by omega)
    | false => exact rsplit_good s w h1 hb hs
end Go.Proofs.YtkehpgegghhfpaaDoor
