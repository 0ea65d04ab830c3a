/- The reader in memory, and what of memory a call of it leaves alone. No condition. -/
import Derived.Test.YtcdmjjlbeifgjaaLoad
import Derived.Test.YtcdmjjlbeifgjaaRmodel
namespace Go.Proofs.Ytcdmjjlbeifgjaa
open Go Go.RowKit

/-- All blocks but those of l are as they were. -/
structure Fr (l : List Nat) (w w' : World) : Prop where
  os : w'.os = w.os
  tape : w'.tape = w.tape
  output : w'.output = w.output
  size : w.heap.size ≤ w'.heap.size
  block : ∀ k, k < w.heap.size → k ∉ l → w'.heap[k]? = w.heap[k]?
theorem Fr.refl (l : List Nat) (w : World) : Fr l w w := ⟨rfl, rfl, rfl, Nat.le_refl _, fun _ _ _ => rfl⟩
theorem Fr.trans {l : List Nat} {a b c : World} (h : Fr l a b) (k : Fr l b c) : Fr l a c :=
  ⟨k.os.trans h.os, k.tape.trans h.tape, k.output.trans h.output, Nat.le_trans h.size k.size, fun i hi hn => (k.block i (Nat.lt_of_lt_of_le hi h.size) hn).trans (h.block i hi hn)⟩
theorem Fr.mono {l l' : List Nat} {a b : World} (h : Fr l a b) (hl : ∀ k ∈ l, k ∈ l') : Fr l' a b := ⟨h.os, h.tape, h.output, h.size, fun i hi hn => h.block i hi (fun hm => hn (hl i hm))⟩
theorem Fr.setCell {l : List Nat} {a b : World} (h : Fr l a b) {p : Addr} (hp : p.block ∈ l) (u : Value) : Fr l a (b.setCell p u) :=
  h.trans ⟨rfl, rfl, rfl, by simp [World.setCell], fun k _ hn => Below.heap_setCell _ _ _ _ (fun e => hn (by rw [e]; exact hp))⟩
theorem Fr.of_below {l : List Nat} {a b : World} (h : Below a.heap.size a b) : Fr l a b := ⟨h.os, h.tape, h.output, h.size, fun k hk _ => h.block k hk⟩
theorem Fr.below {l : List Nat} {a b : World} {B : Nat} (h : Fr l a b) (hl : ∀ k ∈ l, B ≤ k) (hB : B ≤ a.heap.size) : Below B a b :=
  ⟨h.os, h.tape, h.output, h.size, fun k hk => h.block k (by omega) (fun hm => by have := hl k hm; omega)⟩
theorem Row.fr {w w' : World} {b : Nat} {t : TypeId} {vs : Array Value} {l : List Nat} (h : Row w b t vs) (hf : Fr l w w') (hb : b ∉ l) : Row w' b t vs := by
  unfold Row; rw [hf.block b h.lt hb]; exact h

/-- The reader at block g: the bytes that are yet to be read lie where they lay in w0. -/
def Rd (w0 w : World) (g : Nat) (l : List Int) : Prop := w0.heap.size ≤ g ∧ ∃ p c, Row w g 64 #[.slice p l.length c] ∧ Bytes w0 p l ∧ l.length ≤ c ∧ (p = none → c = 0)
theorem Bytes.adv {w : World} {ad : Addr} {cs : List Int} (h : Bytes w (some ad) cs) (n : Nat) : Bytes w (some (ad.add n)) (cs.drop n) := fun hp => by
  have h0 : 0 < cs.length := by rw [List.length_drop] at hp; omega
  obtain ⟨b, o, e, _⟩ := h h0
  injection e with e
  subst e
  have h2 := h.drop n hp
  by_cases hn : n = 0
  · subst hn; simpa [Addr.add] using h2
  · simpa [Addr.add, hn] using h2
theorem Rd.set {w0 w : World} {g : Nat} {u : Value} {l : List Int} {p : Option Addr} {k c : Nat} (hg : w0.heap.size ≤ g) (hr : Row w g 64 #[u]) (hb : Bytes w0 p l) (hk : k = l.length) (hc : l.length ≤ c) (hn : p = none → c = 0) : Rd w0 (w.setCell ⟨g, 0, none⟩ (.slice p k c)) g l := by
  subst hk
  exact ⟨hg, p, c, hr.set0 0 _, hb, hc, hn⟩

theorem Rd.fr {w0 w w' : World} {g : Nat} {l : List Int} (h : Rd w0 w g l) (hb : Below w.heap.size w w') : Rd w0 w' g l := by
  obtain ⟨hg, p, c, hr, h1, h2, h3⟩ := h
  exact ⟨hg, p, c, hr.below hb hr.lt, h1, h2, h3⟩
set_option maxRecDepth 20000 in
set_option maxHeartbeats 1000000 in
theorem take_short (n : Nat) (l : List Int) (w0 w : World) (g : Nat) (hR : Rd w0 w g l) (hn : l.length < n) (_hl : l.length ≤ 1099511627776) :
    Calls Try.prog 47 #[.pointer (some ⟨g, 0, none⟩), .int .i64 n] w fun e w' => e = .returned (.tuple #[.slice none 0 0, .int .i64 8]) ∧ w' = w := by
  obtain ⟨hg, p, c, hr, hby, hc, hnil⟩ := hR
  have hc0 : w.cell? ⟨g, 0, none⟩ = some (.slice p l.length c) := hr.cell
  go_enter Try.func47, Try.ntmps47
  go_wp2
  go_ret2
  exact ⟨rfl, rfl⟩
set_option maxRecDepth 20000 in
set_option maxHeartbeats 1000000 in
theorem take_full (n : Nat) (l : List Int) (w0 w : World) (g : Nat) (hR : Rd w0 w g l) (hn : n ≤ l.length) (hl : l.length ≤ 1099511627776) :
    Calls Try.prog 47 #[.pointer (some ⟨g, 0, none⟩), .int .i64 n] w fun e w' => ∃ p c, e = .returned (.tuple #[.slice p n c, .int .i64 0]) ∧ Bytes w0 p (l.take n) ∧ n ≤ c ∧ (p = none → c = 0) ∧ Rd w0 w' g (l.drop n) ∧ Fr [g] w w' := by
  obtain ⟨hg, p, c, hr, hby, hc, hnil⟩ := hR
  have hc0 : w.cell? ⟨g, 0, none⟩ = some (.slice p l.length c) := hr.cell
  have hf0 := hr.frozen (j := 0)
  by_cases hp : p = none
  · subst hp
    have hcz := hnil rfl
    subst hcz
    obtain rfl : n = 0 := by omega
    have hlz : l.length = 0 := by omega
    obtain rfl : l = [] := List.eq_nil_of_length_eq_zero hlz
    go_enter Try.func47, Try.ntmps47
    go_wp2
    go_ret2
    exact ⟨none, 0, rfl, Bytes.nil _ _, fun _ => rfl, Rd.set hg hr (Bytes.nil _ _) rfl (Nat.le_refl _) (fun _ => rfl), (Fr.refl _ _).setCell (by simp) _⟩
  · obtain ⟨ad, rfl⟩ := Option.ne_none_iff_exists'.1 hp
    have hadv := hby.adv n
    have htk := hby.take n
    go_enter Try.func47, Try.ntmps47
    go_wp2
    all_goals go_ret2
    · have hdz : l.drop n = [] := List.drop_of_length_le (by omega)
      exact ⟨some ad, n, rfl, htk, Nat.le_refl _, (fun h => by cases h), by rw [hdz]; exact Rd.set hg hr (Bytes.nil _ _) (by simp; omega) (Nat.le_refl _) (fun h => by cases h), (Fr.refl _ _).setCell (by simp) _⟩
    · exact ⟨some ad, c, rfl, htk, by omega, (fun h => by cases h), Rd.set hg hr hadv (by simp) (by simp; omega) (fun h => by cases h), (Fr.refl _ _).setCell (by simp) _⟩
end Go.Proofs.Ytcdmjjlbeifgjaa
