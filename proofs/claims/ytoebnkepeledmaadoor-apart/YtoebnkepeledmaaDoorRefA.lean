/- The reference's bytes of a number, and what stands ahead in its hashes. No old memory turns. -/
import Derived.Test.YtoebnkepeledmaaDoorOtsC
import Derived.Test.YtoebnkepeledmaaDoorRef
import Derived.Deep.RegionHeld3
import Derived.Deep.RegionLaw
namespace Go.Proofs.YtoebnkepeledmaaDoor
open Go Go.RowKit

/-- Nothing that was there has turned, but for one block. -/
def Grew (w w' : World) (ob : Option Nat) : Prop := ∀ g, g < w.heap.size → some g ≠ ob → w'.heap[g]? = w.heap[g]?
theorem Grew.of {w w' : World} {ob : Option Nat} (h : w.grownBy w' ob) : Grew w w' ob := by obtain ⟨_, _, _, _, hb⟩ := h; exact fun g hg hne => hb g hg hne
theorem Row.grew {w w' : World} {b : Nat} {t : TypeId} {vs : Array Value} {ob : Option Nat} (h : Row w b t vs) (hg : Grew w w' ob) (hne : some b ≠ ob) : Row w' b t vs := by
  unfold Row; rw [hg b h.lt hne]; exact h
theorem wp8g {P : Program} {w : World} {o : Oper} {a : Act} {K : Act → World → Prop} {Q : Exit → Act → World → Prop} (s x : Operand) (t e : TypeId)
    (ho : o.op = .call { callee := .builtin .append, args := #[s, x], argTypes := #[t, t] })
    (B : Nat) (ht : P.underlying t = some (.slice e)) (hinfo : (P.info? e).map (fun i => (i.zero, i.size, i.bytes)) = some (some (.int .u8 0), 1, 1))
    (v : Value) (l : List Int) (hs : a.eval s = v) (hown : Own8 w B e v l) (sp : Option Addr) (m c : Nat) (cs : List Int) (hx : a.eval x = .slice sp m c) (hm : cs.length = m) (hnil : sp = none → c = 0 ∧ m = 0) (hby : Bytes w sp cs)
    (hlen : l.length + m ≤ 70368744177664) (hB : B ≤ w.heap.size)
    (h : ∀ sp' cap' w', Own8 w' B e (.slice sp' (l ++ cs).length cap') (l ++ cs) → Below B w w' → w.grownBy w' v.ownBlock → K (a.put o.dst (.slice sp' (l ++ cs).length cap')) w') : Oper.wp P o a w K Q := by
  obtain ⟨i, hi, hz, h1, h2⟩ : ∃ i, P.info? e = some i ∧ i.zero = some (.int .u8 0) ∧ i.size = 1 ∧ i.bytes = 1 := by
    cases hq : P.info? e with
    | none => simp [hq] at hinfo
    | some i => simp [hq] at hinfo; exact ⟨i, rfl, hinfo.1, hinfo.2.1, hinfo.2.2⟩
  have hblk : ∀ k, v.ownBlock = some k → B ≤ k := fun k hk => by
    obtain ⟨_, hr⟩ := hown
    rcases hr with ⟨rfl, _⟩ | ⟨g, cap, cur, rfl, hg, _⟩
    · cases hk
    · cases hk; exact hg
  have key : ∀ v' w', w'.ownsRow B e 1 v' (l.length + m) (l.map (Value.int .u8) ++ cs.map (Value.int .u8)) → w.grownBy w' v.ownBlock → K (a.put o.dst v') w' := fun v' w' ho' hg' => by
    have hO : Own8 w' B e v' (l ++ cs) := by
      unfold Own8
      rw [List.length_append, List.map_append, hm]; exact ho'
    obtain ⟨sp', cap', rfl⟩ := hO.form
    exact h sp' cap' w' hO ((Below.refl B w).grown hg' hB hblk) hg'
  cases sp with
  | none =>
    obtain ⟨rfl, rfl⟩ := hnil rfl
    obtain rfl : cs = [] := List.eq_nil_of_length_eq_zero hm
    have hrun := run_append_owned_none (P := P) (w := w) B t o.type e i 1 ht hi v l.length (l.map (Value.int .u8)) hown
    unfold Oper.wp
    simp [execOp, ho, resolve, invoke, builtin, hs, hx, hrun, Result.andThen]
    refine key v w ?_ ⟨rfl, rfl, rfl, Nat.le_refl _, fun _ _ _ => rfl⟩
    unfold Own8 at hown; simpa using hown
  | some ad =>
    refine wp_append_own w s x t ho B e i (.int .u8 0) 1 1 ht hi hz h1 h2 rfl (by decide) v l.length (l.map (Value.int .u8)) hs hown ad m c (cs.map (Value.int .u8)) hx (by simp [hm]) (fun j u hu => ?_) (fun u hu => ?_) (by unfold maxLen; omega) (by omega) hB (fun v' w' h2 h3 _ => key v' w' h2 h3)
    · have hj : j < cs.length := by have := (List.getElem?_eq_some_iff.1 hu).1; simpa using this
      obtain ⟨b, ob, eb, hc⟩ := hby (by omega)
      cases eb
      rw [Addr.add_mid, hc j hj, ← hu]; simp [gi, hj]
    · obtain ⟨y, _, rfl⟩ := List.mem_map.1 hu; rfl
theorem append8g {P : Program} {w : World} {ops : Array Oper} {rest : List Oper} {o : Oper} {a : Act} {Q : Exit → Act → World → Prop} (s x : Operand) (t e : TypeId)
    (ho : o.op = .call { callee := .builtin .append, args := #[s, x], argTypes := #[t, t] }) (hgd : o.guard = none)
    (B : Nat) (ht : P.underlying t = some (.slice e)) (hinfo : (P.info? e).map (fun i => (i.zero, i.size, i.bytes)) = some (some (.int .u8 0), 1, 1))
    (v : Value) (l : List Int) (hs : a.eval s = v) (hown : Own8 w B e v l) (sp : Option Addr) (m c : Nat) (cs : List Int) (hx : a.eval x = .slice sp m c) (hm : cs.length = m) (hnil : sp = none → c = 0 ∧ m = 0) (hby : Bytes w sp cs)
    (hlen : l.length + m ≤ 70368744177664) (hB : B ≤ w.heap.size)
    (h : ∀ sp' cap' w', Own8 w' B e (.slice sp' (l ++ cs).length cap') (l ++ cs) → Below B w w' → w.grownBy w' v.ownBlock → wpList P ops Q rest (a.put o.dst (.slice sp' (l ++ cs).length cap')) w') : wpList P ops Q (o :: rest) a w :=
  wpList_plain hgd fun _ hK => wp8g s x t e ho B ht hinfo v l hs hown sp m c cs hx hm hnil hby hlen hB fun sp' cap' w' h1 h2 h3 => hK _ _ (h sp' cap' w' h1 h2 h3)
theorem step8g {P : Program} {w : World} {ops : Array Oper} {o : Oper} {a : Act} {K : Act → World → Prop} {Q : Exit → Act → World → Prop} {E : Prop} (s x : Operand) (t e : TypeId)
    (ho : o.op = .call { callee := .builtin .append, args := #[s, x], argTypes := #[t, t] }) (hgd : o.guard = none)
    (B : Nat) (ht : P.underlying t = some (.slice e)) (hinfo : (P.info? e).map (fun i => (i.zero, i.size, i.bytes)) = some (some (.int .u8 0), 1, 1))
    (v : Value) (l : List Int) (hs : a.eval s = v) (hown : Own8 w B e v l) (sp : Option Addr) (m c : Nat) (cs : List Int) (hx : a.eval x = .slice sp m c) (hm : cs.length = m) (hnil : sp = none → c = 0 ∧ m = 0) (hby : Bytes w sp cs)
    (hlen : l.length + m ≤ 70368744177664) (hB : B ≤ w.heap.size)
    (h : ∀ sp' cap' w', Own8 w' B e (.slice sp' (l ++ cs).length cap') (l ++ cs) → Below B w w' → w.grownBy w' v.ownBlock → K (a.put o.dst (.slice sp' (l ++ cs).length cap')) w') :
    if Region.wanted o (yielded ops a.tmps) = true then Oper.wp P o a w K Q else E := by
  rw [if_pos (by simp [Region.wanted, hgd])]
  exact wp8g s x t e ho B ht hinfo v l hs hown sp m c cs hx hm hnil hby hlen hB h

theorem own8_lit (w : World) (B : Nat) (hB : B ≤ w.heap.size) : Own8 (w.alloc (.cells #[] 5)) B 5 (.slice (some ⟨w.heap.size, 0, none⟩) 0 0) [] := by
  have := World.ownsRow_lit (base := B) (e := 5) (size := 1) w #[] 0 hB (by unfold maxLen; omega) rfl
  exact this
theorem bytes_lit (w : World) (cs : List Int) : Bytes (w.alloc (.cells (v8 cs) 5)) (some ⟨w.heap.size, 0, none⟩) cs := fun _ => ⟨_, _, rfl, fun j hj => by rw [Nat.zero_add]; exact (Row.new w 5 (v8 cs)).cell8 hj⟩
theorem Own8.mono {w : World} {B B' : Nat} {e : TypeId} {v : Value} {l : List Int} (h : Own8 w B e v l) (hB : B' ≤ B) : Own8 w B' e v l := by
  obtain ⟨hl, h⟩ := h
  refine ⟨hl, ?_⟩
  rcases h with h | ⟨g, cap, cur, hv, hg, r⟩
  · exact .inl h
  · exact .inr ⟨g, cap, cur, hv, by omega, r⟩
theorem Own8.alloc {w : World} {B : Nat} {e : TypeId} {v : Value} {l : List Int} (h : Own8 w B e v l) (o : Obj) : Own8 (w.alloc o) B e v l := h.below ((Below.refl _ _).alloc (Nat.le_refl _) o) (Nat.le_refl _)

set_option maxRecDepth 20000 in
set_option maxHeartbeats 400000 in
theorem rfour_any (l : List Int) (n : Int) (v : Value) (w : World) (B : Nat) (ho : Own8 w B 5 v l) (hl : l.length ≤ 1000000) (hB : B ≤ w.heap.size) :
    Calls Tryd.prog 43 #[v, .int .i64 n] w fun e w' => ∃ sp cap, e = .returned (.slice sp (l.length + 4) cap) ∧ Own8 w' B 5 (.slice sp (l.length + 4) cap) (l ++ n4 n) ∧ Below B w w' ∧ Grew w w' v.ownBlock ∧ w.heap.size ≤ w'.heap.size := by
  have hby : Bytes (w.alloc (.cells (v8 (n4 n)) 5)) (some ⟨w.heap.size, 0, none⟩) (n4 n) := bytes_lit w _
  have ho1 := ho.alloc (.cells (v8 (n4 n)) 5)
  go_enter Tryd.func43, Tryd.ntmps43
  go_wp2_with (at_builtin; (refine append8g (.tmp 5) (.tmp 17) 28 5 (by rfl) (by rfl) B Tryd.underlying28 info5 v l (by rfl) ?ho (some ⟨w.heap.size, 0, none⟩) 4 4 (n4 n) (by rfl) rfl ?hnil ?hby ?hlen ?hB ?_; (case ho => exact ho1); (case hnil => exact (fun h => by cases h)); (case hby => exact hby); (case hlen => omega); (case hB => simp; omega); rw [show (l ++ n4 n).length = l.length + 4 by simp [n4]]; intro sp5 cap5 w5 o5 b5 g5))
  go_ret
  obtain ⟨_, _, _, gs5, gb5⟩ := g5
  refine ⟨sp5, cap5, rfl, o5, ((Below.refl B w).alloc hB _).trans b5, fun g hg hne => ?_, ?_⟩
  · rw [gb5 g (by simp; omega) hne]
    exact Below.heap_alloc w _ g hg
  · simp at gs5
    omega

set_option maxRecDepth 20000 in
set_option maxHeartbeats 400000 in
theorem rtwo_any (l : List Int) (n : Int) (v : Value) (w : World) (B : Nat) (ho : Own8 w B 5 v l) (hl : l.length ≤ 1000000) (hB : B ≤ w.heap.size) :
    Calls Tryd.prog 41 #[v, .int .i64 n] w fun e w' => ∃ sp cap, e = .returned (.slice sp (l.length + 2) cap) ∧ Own8 w' B 5 (.slice sp (l.length + 2) cap) (l ++ n2 n) ∧ Below B w w' ∧ Grew w w' v.ownBlock ∧ w.heap.size ≤ w'.heap.size := by
  have hby : Bytes (w.alloc (.cells (v8 (n2 n)) 5)) (some ⟨w.heap.size, 0, none⟩) (n2 n) := bytes_lit w _
  have ho1 := ho.alloc (.cells (v8 (n2 n)) 5)
  go_enter Tryd.func41, Tryd.ntmps41
  go_wp2_with (at_builtin; (refine append8g (.tmp 5) (.tmp 11) 28 5 (by rfl) (by rfl) B Tryd.underlying28 info5 v l (by rfl) ?ho (some ⟨w.heap.size, 0, none⟩) 2 2 (n2 n) (by rfl) rfl ?hnil ?hby ?hlen ?hB ?_; (case ho => exact ho1); (case hnil => exact (fun h => by cases h)); (case hby => exact hby); (case hlen => omega); (case hB => simp; omega); rw [show (l ++ n2 n).length = l.length + 2 by simp [n2]]; intro sp5 cap5 w5 o5 b5 g5))
  go_ret
  obtain ⟨_, _, _, gs5, gb5⟩ := g5
  refine ⟨sp5, cap5, rfl, o5, ((Below.refl B w).alloc hB _).trans b5, fun g hg hne => ?_, ?_⟩
  · rw [gb5 g (by simp; omega) hne]
    exact Below.heap_alloc w _ g hg
  · simp at gs5
    omega

set_option maxRecDepth 20000 in
set_option maxHeartbeats 400000 in
theorem rhead_any (nm : List Int) (q : Int) (w : World) (hn : nm.length = 16) :
    Calls Tryd.prog 33 #[.agg (v8 nm), .int .i64 q] w fun e w' => ∃ sp cap, e = .returned (.slice sp 20 cap) ∧ Own8 w' w.heap.size 5 (.slice sp 20 cap) (nm ++ n4 q) ∧ Below w.heap.size w w' := by
  have r0 : Row (World.alloc w (.cells (v8 nm) 22)) w.heap.size 22 (v8 nm) := Row.new _ _ _
  have b0 : Below w.heap.size w (World.alloc w (.cells (v8 nm) 22)) := (Below.refl _ _).alloc (Nat.le_refl _) _
  have ho1 : Own8 ((World.alloc w (.cells (v8 nm) 22)).alloc (.cells #[] 5)) w.heap.size 5 (.slice (some ⟨w.heap.size + 1, 0, none⟩) 0 0) [] := by
    have := own8_lit (World.alloc w (.cells (v8 nm) 22)) w.heap.size (by simp)
    rwa [show (World.alloc w (.cells (v8 nm) 22)).heap.size = w.heap.size + 1 by simp] at this
  have hby : Bytes ((World.alloc w (.cells (v8 nm) 22)).alloc (.cells #[] 5)) (some ⟨w.heap.size, 0, none⟩) nm := (r0.alloc _).bytes
  go_enter Tryd.func33, Tryd.ntmps33
  go_wp2_with (first | (at_builtin; (refine append8g (.tmp 5) (.tmp 6) 28 5 (by rfl) (by rfl) w.heap.size Tryd.underlying28 info5 (.slice (some ⟨w.heap.size + 1, 0, none⟩) 0 0) [] (by rfl) ?ho (some ⟨w.heap.size, 0, none⟩) 16 16 nm (by rfl) hn ?hnil ?hby ?hlen ?hB ?_; (case ho => exact ho1); (case hnil => exact (fun h => by cases h)); (case hby => exact hby); (case hlen => simp); (case hB => simp; omega); rw [List.nil_append, hn]; intro sp5 cap5 w5 o5 b5 g5; have hs5 := b5.size; rw [show ((World.alloc w (.cells (v8 nm) 22)).alloc (.cells #[] 5)).heap.size = w.heap.size + 2 by simp] at hs5)) | (go_at_call 43; (with_reducible refine Calls.mono (rfour_any nm q _ w5 w.heap.size o5 (by omega) (by omega)) ?_); rintro e w6 ⟨sp6, cap6, rfl, o6, b6, _, _⟩))
  go_ret
  rw [hn] at o6
  exact ⟨sp6, cap6, rfl, o6, (b0.alloc (by simp) _).trans (b5.trans b6)⟩
end Go.Proofs.YtoebnkepeledmaaDoor
