/- Disks in memory: what of memory a call leaves alone, append onto bytes of its own, a disk of the program and one of the reference as plain data. No condition but that bytes stay below 2^46. -/
import Derived.Test.YtgcffdnbihfghaaApp
import Derived.Test.YtgcffdnbihfghaaTail
import Derived.Test.YtgcffdnbihfghaaRows
import Derived.Deep.QuietTactic
import Derived.Laws.BytesArg
import Derived.Laws.MakeOwn
import Derived.Deep.Cut
import Derived.Deep.RegionLaw
namespace Go.Proofs.Ytgcffdnbihfghaa
open Go Go.RowKit
theorem info5 : (Try.prog.info? 5).map (fun i => (i.zero, i.size, i.bytes)) = some (some (.int .u8 0), 1, 1) := by kernel_rfl

/-- All blocks but those of l are as they were. -/
structure Fr (l : List Nat) (w w' : World) : Prop where
  os : w'.os = w.os
  tape : w'.tape = w.tape
  output : w'.output = w.output
  size : w.heap.size ≤ w'.heap.size
  block : ∀ k, k < w.heap.size → k ∉ l → w'.heap[k]? = w.heap[k]?
theorem Fr.refl (l : List Nat) (w : World) : Fr l w w := ⟨rfl, rfl, rfl, Nat.le_refl _, fun _ _ _ => rfl⟩
theorem Fr.trans {l : List Nat} {a b c : World} (h : Fr l a b) (k : Fr l b c) : Fr l a c :=
  ⟨k.os.trans h.os, k.tape.trans h.tape, k.output.trans h.output, Nat.le_trans h.size k.size, fun i hi hn => (k.block i (Nat.lt_of_lt_of_le hi h.size) hn).trans (h.block i hi hn)⟩
/-- The second step's blocks are of the first's, or new. -/
theorem Fr.step {l l' : List Nat} {a b c : World} (h : Fr l a b) (k : Fr l' b c) (hl : ∀ x ∈ l', x ∈ l ∨ a.heap.size ≤ x) : Fr l a c :=
  ⟨k.os.trans h.os, k.tape.trans h.tape, k.output.trans h.output, Nat.le_trans h.size k.size, fun i hi hn => (k.block i (Nat.lt_of_lt_of_le hi h.size) (fun hm => by rcases hl i hm with h1 | h1; exact hn h1; omega)).trans (h.block i hi hn)⟩
theorem Fr.mono {l l' : List Nat} {a b : World} (h : Fr l a b) (hl : ∀ k ∈ l, k ∈ l') : Fr l' a b := ⟨h.os, h.tape, h.output, h.size, fun i hi hn => h.block i hi (fun hm => hn (hl i hm))⟩
theorem Fr.setCell {l : List Nat} {a b : World} (h : Fr l a b) {p : Addr} (hp : p.block ∈ l) (u : Value) : Fr l a (b.setCell p u) :=
  h.trans ⟨rfl, rfl, rfl, by simp [World.setCell], fun k _ hn => Below.heap_setCell _ _ _ _ (fun e => hn (by rw [e]; exact hp))⟩
theorem Fr.alloc {l : List Nat} {a b : World} (h : Fr l a b) (o : Obj) : Fr l a (b.alloc o) :=
  h.trans ⟨rfl, rfl, rfl, by simp, fun k hk _ => Below.heap_alloc b o k hk⟩
theorem Fr.drewN {l : List Nat} {a b : World} (h : Fr l a b) (n : Nat) : Fr l a (b.drewN n) := ⟨h.os, h.tape, h.output, h.size, h.block⟩
theorem Fr.of_below {l : List Nat} {a b : World} (h : Below a.heap.size a b) : Fr l a b := ⟨h.os, h.tape, h.output, h.size, fun k hk _ => h.block k hk⟩
theorem Fr.below {l : List Nat} {a b : World} {B : Nat} (h : Fr l a b) (hl : ∀ k ∈ l, B ≤ k) (hB : B ≤ a.heap.size) : Below B a b :=
  ⟨h.os, h.tape, h.output, h.size, fun k hk => h.block k (by omega) (fun hm => by have := hl k hm; omega)⟩
theorem Row.fr {w w' : World} {b : Nat} {t : TypeId} {vs : Array Value} {l : List Nat} (h : Row w b t vs) (hf : Fr l w w') (hb : b ∉ l) : Row w' b t vs := by
  unfold Row; rw [hf.block b h.lt hb]; exact h
theorem Bytes.fr {w w' : World} {sp : Option Addr} {cs : List Int} {l : List Nat} (h : Bytes w sp cs) (hf : Fr l w w') (hb : ∀ a, sp = some a → a.block ∉ l) : Bytes w' sp cs := fun hp => by
  obtain ⟨b, o, rfl, hc⟩ := h hp
  refine ⟨b, o, rfl, fun j hj => ?_⟩
  have h1 := hc j hj
  have h2 := block_lt_of_cell h1
  rw [World.cell?_of_block (a := ⟨b, o + j, none⟩) (hf.block b h2 (hb _ rfl))]; exact h1
theorem Row.set0 {w : World} {g : Nat} {t : TypeId} {vs : Array Value} (h : Row w g t vs) (j : Nat) (u : Value) : Row (w.setCell ⟨g, j, none⟩ u) g t (vs.setIfInBounds j u) := heap_setCell_same w g j vs t u h

/-- Which block bytes lie in; where there is none, the owner's. -/
def bk (sp : Option Addr) (g : Nat) : Nat := match sp with | none => g | some a => a.block
theorem Own8.row {w : World} {B : Nat} {e : TypeId} {sp : Option Addr} {n cap : Nat} {l : List Int} (h : Own8 w B e (.slice sp n cap) l) : (sp = none ∧ cap = 0 ∧ l = [] ∧ n = 0) ∨ ∃ g cur, sp = some ⟨g, 0, none⟩ ∧ Row w g e cur ∧ n = l.length ∧ l.length ≤ cap := by
  obtain ⟨hl, h⟩ := h
  rcases h with ⟨h, h0⟩ | ⟨g, cap', cur, hv, hg, hh, hn, _⟩
  · injection h with h1 h2 h3
    exact .inl ⟨h1, h3, List.eq_nil_of_length_eq_zero h0, h2⟩
  · injection hv with h1 h2 h3
    subst h3
    exact .inr ⟨g, cur, h1, hh, h2, hn⟩
theorem Own8.fr {w w' : World} {B g : Nat} {e : TypeId} {sp : Option Addr} {n cap : Nat} {l : List Int} {L : List Nat} (h : Own8 w B e (.slice sp n cap) l) (hf : Fr L w w') (hb : bk sp g ∉ L) : Own8 w' B e (.slice sp n cap) l := by
  obtain ⟨hl, h⟩ := h
  refine ⟨hl, ?_⟩
  rcases h with h | ⟨g', cap', cur, hv, hg, hh, r⟩
  · exact .inl h
  · refine .inr ⟨g', cap', cur, hv, hg, ?_, r⟩
    injection hv with h1 _ _
    subst h1
    rw [hf.block g' (Row.lt (t := e) (vs := cur) hh) hb]; exact hh
theorem Own8.front {w : World} {B : Nat} {e : TypeId} {sp : Option Addr} {n cap : Nat} {l : List Int} (h : Own8 w B e (.slice sp n cap) l) (k : Nat) (hk : k ≤ l.length) : Own8 w B e (.slice sp k cap) (l.take k) := by
  obtain ⟨hl, h⟩ := h
  have hkl : (l.take k).length = k := by simp; omega
  unfold Own8
  rw [hkl]
  refine ⟨by simp; omega, ?_⟩
  rcases h with ⟨h, h0⟩ | ⟨g', cap', cur, hv, hg, hh, h1, h2, h3, h4⟩
  · injection h with e1 e2 e3
    subst e1; subst e3
    obtain rfl : k = 0 := by omega
    exact .inl ⟨rfl, rfl⟩
  · injection hv with e1 e2 e3
    subst e1; subst e3
    refine .inr ⟨g', cap, cur, rfl, hg, hh, by omega, h2, h3, ?_⟩
    have := congrArg (List.take k) h4
    rw [List.take_take, ← List.map_take] at this
    simp only [Nat.mul_one] at this ⊢
    rw [Nat.min_eq_left hk] at this
    exact this
theorem Own8.setOther {w : World} {B : Nat} {e : TypeId} {v : Value} {l : List Int} (h : Own8 w B e v l) (p : Addr) (u : Value) (hne : ∀ k, v.ownBlock = some k → k ≠ p.block) : Own8 (w.setCell p u) B e v l := by
  obtain ⟨hl, h⟩ := h
  refine ⟨hl, ?_⟩
  rcases h with h | ⟨g', cap', cur, hv, hg, hh, r⟩
  · exact .inl h
  · refine .inr ⟨g', cap', cur, hv, hg, ?_, r⟩
    rw [heap_setCell_other w p g' u (hne g' (by rw [hv]; rfl))]
    exact hh
theorem Own8.drewN {w : World} {B : Nat} {e : TypeId} {v : Value} {l : List Int} (h : Own8 w B e v l) (n : Nat) : Own8 (w.drewN n) B e v l := h
theorem own8_nil (w : World) : Own8 w 0 5 (.slice none 0 0) [] := ⟨rfl, .inl ⟨rfl, rfl⟩⟩
theorem own8_lit (w : World) (B : Nat) (hB : B ≤ w.heap.size) : Own8 (w.alloc (.cells #[] 5)) B 5 (.slice (some ⟨w.heap.size, 0, none⟩) 0 0) [] := by
  have := World.ownsRow_lit (base := B) (e := 5) (size := 1) w #[] 0 hB (by unfold maxLen; omega) rfl
  exact this
theorem Own8.mono {w : World} {B B' : Nat} {e : TypeId} {v : Value} {l : List Int} (h : Own8 w B e v l) (hB : B' ≤ B) : Own8 w B' e v l := by
  obtain ⟨hl, h⟩ := h
  refine ⟨hl, ?_⟩
  rcases h with h | ⟨g, cap, cur, hv, hg, r⟩
  · exact .inl h
  · exact .inr ⟨g, cap, cur, hv, by omega, r⟩

/-- append onto own bytes: in their own block, or in a new one. -/
theorem run8 (w : World) (ty : TypeId) (B : Nat) (v : Value) (l : List Int) (hown : Own8 w B 5 v l) (sp : Option Addr) (m c : Nat) (cs : List Int) (hm : cs.length = m) (hnil : sp = none → c = 0 ∧ m = 0) (hby : Bytes w sp cs)
    (hlen : l.length + m ≤ 70368744177664) (hB : B ≤ w.heap.size) :
    ∃ sp' cap' w', (Builtin.append_ #[27, 27] ty #[v, .slice sp m c]).run Try.prog w = .ok (.slice sp' (l ++ cs).length cap') w' ∧ Own8 w' B 5 (.slice sp' (l ++ cs).length cap') (l ++ cs) ∧ w.grownBy w' v.ownBlock ∧
      ((Value.slice sp' (l ++ cs).length cap').ownBlock = v.ownBlock ∨ (Value.slice sp' (l ++ cs).length cap').ownBlock = some w.heap.size) := by
  obtain ⟨i, hi, hz, h1, h2⟩ : ∃ i, Try.prog.info? 5 = some i ∧ i.zero = some (.int .u8 0) ∧ i.size = 1 ∧ i.bytes = 1 := by
    have hinfo := info5
    cases hq : Try.prog.info? 5 with
    | none => simp [hq] at hinfo
    | some i => simp [hq] at hinfo; exact ⟨i, rfl, hinfo.1, hinfo.2.1, hinfo.2.2⟩
  cases sp with
  | none =>
    obtain ⟨rfl, rfl⟩ := hnil rfl
    obtain rfl : cs = [] := List.eq_nil_of_length_eq_zero hm
    have hrun := run_append_owned_none (P := Try.prog) (w := w) B 27 ty 5 i 1 Try.underlying27 hi v l.length (l.map (Value.int .u8)) hown
    obtain ⟨sp', cap', rfl⟩ := hown.form
    refine ⟨sp', cap', w, by simpa using hrun, by simpa using hown, ⟨rfl, rfl, rfl, Nat.le_refl _, fun _ _ _ => rfl⟩, .inl ?_⟩
    cases sp' <;> rfl
  | some ad =>
    have hnl : (cs.map (Value.int .u8)).length = m * i.size := by rw [h1]; simp [hm]
    have hnews : ∀ j u, (cs.map (Value.int .u8))[j]? = some u → w.cell? (ad.add j) = some u := fun j u hu => by
      have hj : j < cs.length := by have := (List.getElem?_eq_some_iff.1 hu).1; simpa using this
      obtain ⟨b, ob, eb, hc⟩ := hby (by omega)
      cases eb
      rw [Addr.add_mid, hc j hj, ← hu]; simp [gi, hj]
    have hone : ∀ u ∈ cs.map (Value.int .u8), u.oneCell' = true := fun u hu => by obtain ⟨y, _, rfl⟩ := List.mem_map.1 hu; rfl
    obtain ⟨v', w', hr, ho', hg', hz0⟩ := run_append_own (P := Try.prog) w B 27 ty 5 i (.int .u8 0) 1 1 Try.underlying27 hi hz h1 h2 rfl (by decide) v l.length (l.map (Value.int .u8)) hown ad m c (cs.map (Value.int .u8)) (by rw [← h1]; exact hnl) hnews hone (by unfold maxLen; omega) (by omega) hB
    have hO : Own8 w' B 5 v' (l ++ cs) := by
      unfold Own8
      rw [List.length_append, List.map_append, hm]; exact ho'
    obtain ⟨sp', cap', rfl⟩ := hO.form
    refine ⟨sp', cap', w', hr, hO, hg', ?_⟩
    rcases hown.2 with ⟨rfl, h0⟩ | ⟨g, cap, cur, rfl, hbg, hgg, hnc, hcm, hcs, htk⟩
    · by_cases hm0 : m = 0
      · subst hm0
        have : sp' = none := by
          rcases hO.row with ⟨h, _⟩ | ⟨g, cur, h3, h4, _⟩
          · exact h
          · have h5 := hz0.2 ⟨rfl, rfl⟩
            injection h5 with h5
        subst this; exact .inl rfl
      · have hr2 := run_append_nil (P := Try.prog) w 27 ty 5 i (.int .u8 0) Try.underlying27 hi hz ad m c (cs.map (Value.int .u8)) hnl hnews (by omega) (by omega) (by rw [h2]; omega)
        rw [hr] at hr2
        injection hr2 with e1 e2
        injection e1 with e1
        subst e1; exact .inr rfl
    · by_cases hroom : l.length + m ≤ cap
      · have hr2 := run_append_room (P := Try.prog) w 27 ty 5 i Try.underlying27 hi g l.length cap cur hgg ad m c (cs.map (Value.int .u8)) hnl hnews hone hroom (by rw [h1, hcs]; simp [hm]; omega)
        rw [hr] at hr2
        injection hr2 with e1 e2
        injection e1 with e1
        subst e1; exact .inl rfl
      · have holds : ∀ j u, (l.map (Value.int .u8))[j]? = some u → w.cell? ((⟨g, 0, none⟩ : Addr).add j) = some u := World.ownsRow.cells (v := .slice (some ⟨g, 0, none⟩) l.length cap) hown (g := g) rfl
        have hr2 := run_append_grow (P := Try.prog) w 27 ty 5 i (.int .u8 0) Try.underlying27 hi hz ⟨g, 0, none⟩ l.length cap (l.map (Value.int .u8)) (by rw [h1]; simp) holds ad m c (cs.map (Value.int .u8)) hnl hnews (by omega) (by omega) (growslice_fits (by omega) (by rw [h2]; omega))
        rw [hr] at hr2
        injection hr2 with e1 e2
        injection e1 with e1
        subst e1; exact .inr rfl
end Go.Proofs.Ytgcffdnbihfghaa
