/- The first steps of the reference of ots. -/
import Derived.Test.YtoebnkepeledmaaDoorGd
import Derived.Test.YtoebnkepeledmaaDoorRefx
import Derived.Deep.RegionHeld3
import Derived.Deep.RegionLaw
import Derived.Test.YtoebnkepeledmaaDoorGf
import Derived.Test.YtoebnkepeledmaaDoorGe
namespace Go.Proofs.YtoebnkepeledmaaDoor

section
open Go Go.RowKit

/-- Nothing that was there has turned, but for one block. -/
def Grew (w w' : World) (ob : Option Nat) : Prop := ∀ g, g < w.heap.size → some g ≠ ob → w'.heap[g]? = w.heap[g]?
theorem Grew.of {w w' : World} {ob : Option Nat} (h : w.grownBy w' ob) : Grew w w' ob := by obtain ⟨_, _, _, _, hb⟩ := h; exact fun g hg hne => hb g hg hne
theorem Row.grew {w w' : World} {b : Nat} {t : TypeId} {vs : Array Value} {ob : Option Nat} (h : Row w b t vs) (hg : Grew w w' ob) (hne : some b ≠ ob) : Row w' b t vs := by
  unfold Row; rw [hg b h.lt hne]; exact h
theorem wp8g {P : Program} {w : World} {o : Oper} {a : Act} {K : Act → World → Prop} {Q : Exit → Act → World → Prop} (s x : Operand) (t e : TypeId)
    (ho : o.op = .call { callee := .builtin .append, args := #[s, x], argTypes := #[t, t] })
    (B : Nat) (ht : P.underlying t = some (.slice e)) (hinfo : (P.info? e).map (fun i => (i.zero, i.size, i.bytes)) = some (some (.int .u8 0), 1, 1))
    (v : Value) (l : List Int) (hs : a.eval s = v) (hown : Own8 w B e v l) (sp : Option Addr) (m c : Nat) (cs : List Int) (hx : a.eval x = .slice sp m c) (hm : cs.length = m) (hnil : sp = none → c = 0 ∧ m = 0) (hby : Bytes w sp cs)
    (hlen : l.length + m ≤ 70368744177664) (hB : B ≤ w.heap.size)
    (h : ∀ sp' cap' w', Own8 w' B e (.slice sp' (l ++ cs).length cap') (l ++ cs) → Below B w w' → w.grownBy w' v.ownBlock → K (a.put o.dst (.slice sp' (l ++ cs).length cap')) w') : Oper.wp P o a w K Q := by
  obtain ⟨i, hi, hz, h1, h2⟩ : ∃ i, P.info? e = some i ∧ i.zero = some (.int .u8 0) ∧ i.size = 1 ∧ i.bytes = 1 := by
    cases hq : P.info? e with
    | none => simp [hq] at hinfo
    | some i => simp [hq] at hinfo; exact ⟨i, rfl, hinfo.1, hinfo.2.1, hinfo.2.2⟩
  have hblk : ∀ k, v.ownBlock = some k → B ≤ k := fun k hk => by
    obtain ⟨_, hr⟩ := hown
    rcases hr with ⟨rfl, _⟩ | ⟨g, cap, cur, rfl, hg, _⟩
    · cases hk
    · cases hk; exact hg
  have key : ∀ v' w', w'.ownsRow B e 1 v' (l.length + m) (l.map (Value.int .u8) ++ cs.map (Value.int .u8)) → w.grownBy w' v.ownBlock → K (a.put o.dst v') w' := fun v' w' ho' hg' => by
    have hO : Own8 w' B e v' (l ++ cs) := by
      unfold Own8
      rw [List.length_append, List.map_append, hm]; exact ho'
    obtain ⟨sp', cap', rfl⟩ := hO.form
    exact h sp' cap' w' hO ((Below.refl B w).grown hg' hB hblk) hg'
  cases sp with
  | none =>
    obtain ⟨rfl, rfl⟩ := hnil rfl
    obtain rfl : cs = [] := List.eq_nil_of_length_eq_zero hm
    have hrun := run_append_owned_none (P := P) (w := w) B t o.type e i 1 ht hi v l.length (l.map (Value.int .u8)) hown
    unfold Oper.wp
    simp [execOp, ho, resolve, invoke, builtin, hs, hx, hrun, Result.andThen]
    refine key v w ?_ ⟨rfl, rfl, rfl, Nat.le_refl _, fun _ _ _ => rfl⟩
    unfold Own8 at hown; simpa using hown
  | some ad =>
    refine wp_append_own w s x t ho B e i (.int .u8 0) 1 1 ht hi hz h1 h2 rfl (by decide) v l.length (l.map (Value.int .u8)) hs hown ad m c (cs.map (Value.int .u8)) hx (by simp [hm]) (fun j u hu => ?_) (fun u hu => ?_) (by unfold maxLen; omega) (by omega) hB (fun v' w' h2 h3 _ => key v' w' h2 h3)
    · have hj : j < cs.length := by have := (List.getElem?_eq_some_iff.1 hu).1; simpa using this
      obtain ⟨b, ob, eb, hc⟩ := hby (by omega)
      cases eb
      rw [Addr.add_mid, hc j hj, ← hu]; simp [gi, hj]
    · obtain ⟨y, _, rfl⟩ := List.mem_map.1 hu; rfl
theorem append8g {P : Program} {w : World} {ops : Array Oper} {rest : List Oper} {o : Oper} {a : Act} {Q : Exit → Act → World → Prop} (s x : Operand) (t e : TypeId)
    (ho : o.op = .call { callee := .builtin .append, args := #[s, x], argTypes := #[t, t] }) (hgd : o.guard = none)
    (B : Nat) (ht : P.underlying t = some (.slice e)) (hinfo : (P.info? e).map (fun i => (i.zero, i.size, i.bytes)) = some (some (.int .u8 0), 1, 1))
    (v : Value) (l : List Int) (hs : a.eval s = v) (hown : Own8 w B e v l) (sp : Option Addr) (m c : Nat) (cs : List Int) (hx : a.eval x = .slice sp m c) (hm : cs.length = m) (hnil : sp = none → c = 0 ∧ m = 0) (hby : Bytes w sp cs)
    (hlen : l.length + m ≤ 70368744177664) (hB : B ≤ w.heap.size)
    (h : ∀ sp' cap' w', Own8 w' B e (.slice sp' (l ++ cs).length cap') (l ++ cs) → Below B w w' → w.grownBy w' v.ownBlock → wpList P ops Q rest (a.put o.dst (.slice sp' (l ++ cs).length cap')) w') : wpList P ops Q (o :: rest) a w :=
  wpList_plain hgd fun _ hK => wp8g s x t e ho B ht hinfo v l hs hown sp m c cs hx hm hnil hby hlen hB fun sp' cap' w' h1 h2 h3 => hK _ _ (h sp' cap' w' h1 h2 h3)
theorem step8g {P : Program} {w : World} {ops : Array Oper} {o : Oper} {a : Act} {K : Act → World → Prop} {Q : Exit → Act → World → Prop} {E : Prop} (s x : Operand) (t e : TypeId)
    (ho : o.op = .call { callee := .builtin .append, args := #[s, x], argTypes := #[t, t] }) (hgd : o.guard = none)
    (B : Nat) (ht : P.underlying t = some (.slice e)) (hinfo : (P.info? e).map (fun i => (i.zero, i.size, i.bytes)) = some (some (.int .u8 0), 1, 1))
    (v : Value) (l : List Int) (hs : a.eval s = v) (hown : Own8 w B e v l) (sp : Option Addr) (m c : Nat) (cs : List Int) (hx : a.eval x = .slice sp m c) (hm : cs.length = m) (hnil : sp = none → c = 0 ∧ m = 0) (hby : Bytes w sp cs)
    (hlen : l.length + m ≤ 70368744177664) (hB : B ≤ w.heap.size)
    (h : ∀ sp' cap' w', Own8 w' B e (.slice sp' (l ++ cs).length cap') (l ++ cs) → Below B w w' → w.grownBy w' v.ownBlock → K (a.put o.dst (.slice sp' (l ++ cs).length cap')) w') :
    if Region.wanted o (yielded ops a.tmps) = true then Oper.wp P o a w K Q else E := by
  rw [if_pos (by simp [Region.wanted, hgd])]
  exact wp8g s x t e ho B ht hinfo v l hs hown sp m c cs hx hm hnil hby hlen hB h

theorem own8_lit (w : World) (B : Nat) (hB : B ≤ w.heap.size) : Own8 (w.alloc (.cells #[] 5)) B 5 (.slice (some ⟨w.heap.size, 0, none⟩) 0 0) [] := by
  have := World.ownsRow_lit (base := B) (e := 5) (size := 1) w #[] 0 hB (by unfold maxLen; omega) rfl
  exact this
theorem bytes_lit (w : World) (cs : List Int) : Bytes (w.alloc (.cells (v8 cs) 5)) (some ⟨w.heap.size, 0, none⟩) cs := fun _ => ⟨_, _, rfl, fun j hj => by rw [Nat.zero_add]; exact (Row.new w 5 (v8 cs)).cell8 hj⟩
theorem Own8.mono {w : World} {B B' : Nat} {e : TypeId} {v : Value} {l : List Int} (h : Own8 w B e v l) (hB : B' ≤ B) : Own8 w B' e v l := by
  obtain ⟨hl, h⟩ := h
  refine ⟨hl, ?_⟩
  rcases h with h | ⟨g, cap, cur, hv, hg, r⟩
  · exact .inl h
  · exact .inr ⟨g, cap, cur, hv, by omega, r⟩
theorem Own8.alloc {w : World} {B : Nat} {e : TypeId} {v : Value} {l : List Int} (h : Own8 w B e v l) (o : Obj) : Own8 (w.alloc o) B e v l := h.below ((Below.refl _ _).alloc (Nat.le_refl _) o) (Nat.le_refl _)

set_option maxRecDepth 20000 in
set_option maxHeartbeats 400000 in
theorem rfour_any (l : List Int) (n : Int) (v : Value) (w : World) (B : Nat) (ho : Own8 w B 5 v l) (hl : l.length ≤ 1000000) (hB : B ≤ w.heap.size) :
    Calls Tryd.prog 43 #[v, .int .i64 n] w fun e w' => ∃ sp cap, e = .returned (.slice sp (l.length + 4) cap) ∧ Own8 w' B 5 (.slice sp (l.length + 4) cap) (l ++ n4 n) ∧ Below B w w' ∧ Grew w w' v.ownBlock ∧ w.heap.size ≤ w'.heap.size := by
  have hby : Bytes (w.alloc (.cells (v8 (n4 n)) 5)) (some ⟨w.heap.size, 0, none⟩) (n4 n) := bytes_lit w _
  have ho1 := ho.alloc (.cells (v8 (n4 n)) 5)
  go_enter Tryd.func43, Tryd.ntmps43
  go_wp2_with (at_builtin; (refine append8g (.tmp 5) (.tmp 17) 28 5 (by rfl) (by rfl) B Tryd.underlying28 info5 v l (by rfl) ?ho (some ⟨w.heap.size, 0, none⟩) 4 4 (n4 n) (by rfl) rfl ?hnil ?hby ?hlen ?hB ?_; (case ho => exact ho1); (case hnil => exact (fun h => by cases h)); (case hby => exact hby); (case hlen => omega); (case hB => simp; omega); rw [show (l ++ n4 n).length = l.length + 4 by simp [n4]]; intro sp5 cap5 w5 o5 b5 g5))
  go_ret
  obtain ⟨_, _, _, gs5, gb5⟩ := g5
  refine ⟨sp5, cap5, rfl, o5, ((Below.refl B w).alloc hB _).trans b5, fun g hg hne => ?_, ?_⟩
  · rw [gb5 g (by simp; omega) hne]
    exact Below.heap_alloc w _ g hg
  · simp at gs5
    omega

set_option maxRecDepth 20000 in
set_option maxHeartbeats 400000 in
theorem rtwo_any (l : List Int) (n : Int) (v : Value) (w : World) (B : Nat) (ho : Own8 w B 5 v l) (hl : l.length ≤ 1000000) (hB : B ≤ w.heap.size) :
    Calls Tryd.prog 41 #[v, .int .i64 n] w fun e w' => ∃ sp cap, e = .returned (.slice sp (l.length + 2) cap) ∧ Own8 w' B 5 (.slice sp (l.length + 2) cap) (l ++ n2 n) ∧ Below B w w' ∧ Grew w w' v.ownBlock ∧ w.heap.size ≤ w'.heap.size := by
  have hby : Bytes (w.alloc (.cells (v8 (n2 n)) 5)) (some ⟨w.heap.size, 0, none⟩) (n2 n) := bytes_lit w _
  have ho1 := ho.alloc (.cells (v8 (n2 n)) 5)
  go_enter Tryd.func41, Tryd.ntmps41
  go_wp2_with (at_builtin; (refine append8g (.tmp 5) (.tmp 11) 28 5 (by rfl) (by rfl) B Tryd.underlying28 info5 v l (by rfl) ?ho (some ⟨w.heap.size, 0, none⟩) 2 2 (n2 n) (by rfl) rfl ?hnil ?hby ?hlen ?hB ?_; (case ho => exact ho1); (case hnil => exact (fun h => by cases h)); (case hby => exact hby); (case hlen => omega); (case hB => simp; omega); rw [show (l ++ n2 n).length = l.length + 2 by simp [n2]]; intro sp5 cap5 w5 o5 b5 g5))
  go_ret
  obtain ⟨_, _, _, gs5, gb5⟩ := g5
  refine ⟨sp5, cap5, rfl, o5, ((Below.refl B w).alloc hB _).trans b5, fun g hg hne => ?_, ?_⟩
  · rw [gb5 g (by simp; omega) hne]
    exact Below.heap_alloc w _ g hg
  · simp at gs5
    omega

set_option maxRecDepth 20000 in
set_option maxHeartbeats 400000 in
theorem rhead_any (nm : List Int) (q : Int) (w : World) (hn : nm.length = 16) :
    Calls Tryd.prog 33 #[.agg (v8 nm), .int .i64 q] w fun e w' => ∃ sp cap, e = .returned (.slice sp 20 cap) ∧ Own8 w' w.heap.size 5 (.slice sp 20 cap) (nm ++ n4 q) ∧ Below w.heap.size w w' := by
  have r0 : Row (World.alloc w (.cells (v8 nm) 22)) w.heap.size 22 (v8 nm) := Row.new _ _ _
  have b0 : Below w.heap.size w (World.alloc w (.cells (v8 nm) 22)) := (Below.refl _ _).alloc (Nat.le_refl _) _
  have ho1 : Own8 ((World.alloc w (.cells (v8 nm) 22)).alloc (.cells #[] 5)) w.heap.size 5 (.slice (some ⟨w.heap.size + 1, 0, none⟩) 0 0) [] := by
    have := own8_lit (World.alloc w (.cells (v8 nm) 22)) w.heap.size (by simp)
    rwa [show (World.alloc w (.cells (v8 nm) 22)).heap.size = w.heap.size + 1 by simp] at this
  have hby : Bytes ((World.alloc w (.cells (v8 nm) 22)).alloc (.cells #[] 5)) (some ⟨w.heap.size, 0, none⟩) nm := (r0.alloc _).bytes
  go_enter Tryd.func33, Tryd.ntmps33
  go_wp2_with (first | (at_builtin; (refine append8g (.tmp 5) (.tmp 6) 28 5 (by rfl) (by rfl) w.heap.size Tryd.underlying28 info5 (.slice (some ⟨w.heap.size + 1, 0, none⟩) 0 0) [] (by rfl) ?ho (some ⟨w.heap.size, 0, none⟩) 16 16 nm (by rfl) hn ?hnil ?hby ?hlen ?hB ?_; (case ho => exact ho1); (case hnil => exact (fun h => by cases h)); (case hby => exact hby); (case hlen => simp); (case hB => simp; omega); rw [List.nil_append, hn]; intro sp5 cap5 w5 o5 b5 g5; have hs5 := b5.size; rw [show ((World.alloc w (.cells (v8 nm) 22)).alloc (.cells #[] 5)).heap.size = w.heap.size + 2 by simp] at hs5)) | (go_at_call 43; (with_reducible refine Calls.mono (rfour_any nm q _ w5 w.heap.size o5 (by omega) (by omega)) ?_); rintro e w6 ⟨sp6, cap6, rfl, o6, b6, _, _⟩))
  go_ret
  rw [hn] at o6
  exact ⟨sp6, cap6, rfl, o6, (b0.alloc (by simp) _).trans (b5.trans b6)⟩
end

section
open Go Go.RowKit

theorem Hash.rsum {S : List Int → List Int} (h : Hash S) (bs : List Int) (sp : Option Addr) (len cap : Nat) (w : World) (hlen : bs.length = len) (hmax : len ≤ 1099511627776) (hnil : sp = none → cap = 0 ∧ len = 0) (hby : Bytes w sp bs) :
    Calls Tryd.prog 36 #[.slice sp len cap] w fun e w' => e = .returned (.agg (v8 (S bs))) ∧ Below w.heap.size w w' := by subst h; exact ref_any bs sp len cap w hlen hmax hnil hby
theorem own_lt {w : World} {B : Nat} {e : TypeId} {v : Value} {l : List Int} (h : Own8 w B e v l) {g : Nat} (hg : w.heap.size ≤ g) : some g ≠ v.ownBlock := fun e1 => by
  obtain ⟨_, h⟩ := h
  rcases h with ⟨rfl, _⟩ | ⟨g', cap, cur, rfl, _, hh, _⟩
  · cases e1
  · cases e1
    rw [Array.getElem?_eq_none (by omega)] at hh; cases hh
theorem own_ge {w : World} {B : Nat} {e : TypeId} {v : Value} {l : List Int} (h : Own8 w B e v l) {g : Nat} (hg : g < B) : some g ≠ v.ownBlock := fun e1 => by
  obtain ⟨_, h⟩ := h
  rcases h with ⟨rfl, _⟩ | ⟨g', cap, cur, rfl, hB, _, _⟩
  · cases e1
  · have : g = g' := by simpa [Value.ownBlock] using e1
    omega
theorem own_nil {w : World} {B : Nat} {e : TypeId} {sp : Option Addr} {n cap : Nat} {l : List Int} (h : Own8 w B e (.slice sp n cap) l) (hp : 0 < l.length) : sp = none → cap = 0 ∧ n = 0 := fun h0 => by
  obtain ⟨g, cur, e1, _⟩ := h.row hp
  rw [h0] at e1; cases e1
theorem rg {w w' : World} {B g : Nat} {cs : List Value} (h : w.rangeAt g 0 cs) (hB : B = w.heap.size) (hb : Below B w w') : w'.rangeAt g 0 cs := fun j v hv => by
  have h1 := h j v hv
  have h2 := block_lt_of_cell h1
  subst hB
  rw [hb.cell (p := ⟨g, 0 + j, none⟩) h2]; exact h1
theorem setCells_row {P : Program} (w : World) (g off : Nat) (t ty : TypeId) (l cs : List Int) (hg : Row w g t (v8 l)) (hi : (P.info? ty).map (·.size) = some (v8 cs).size) (hfit : off + cs.length ≤ l.length) : w.setCells g off (v8 cs).toList = w.setRow g (v8 (spl l off cs)) := by
  have h1 := run_storeVar_row (P := P) w g off t ty (v8 l) (v8 cs) hg (by rw [v8_size, v8_size]; exact hfit) hi (v8_one _)
  have h2 := run_storeVar_mid (P := P) w g off ty (v8 cs) (fun j hj => by
    rw [v8_size] at hj
    refine ⟨?_, hg.frozen⟩
    rw [hg.cell8 (by omega)]; rfl) hi (v8_one _)
  have e : ((v8 l).toList.take off ++ (v8 cs).toList ++ (v8 l).toList.drop (off + (v8 cs).size)).toArray = v8 (spl l off cs) := by
    simp [v8, spl, List.map_take, List.map_drop]
  rw [e] at h1
  rw [h1] at h2
  injection h2 with _ h3
  exact h3.symm
theorem there_row {w : World} {g : Nat} {t : TypeId} {l : List Int} {n : Nat} (h : Row w g t (v8 l)) (hn : l.length = n) : w.there g 0 n := fun j hj => ⟨by rw [Nat.zero_add, h.cell8 (by omega)]; rfl, h.frozen⟩
theorem range_row {w : World} {g : Nat} {t : TypeId} {vs : Array Value} (h : Row w g t vs) : w.rangeAt g 0 vs.toList := fun j v hv => by
  rw [Nat.zero_add, h.cell]; simpa using hv

set_option maxRecDepth 20000 in
set_option maxHeartbeats 400000 in
theorem rsecret_any (S : List Int → List Int) (hS : Hash S) (nm seed : List Int) (q i : Int) (w : World) (hn : nm.length = 16) (hs : seed.length = 32) :
    Calls Tryd.prog 35 #[.agg (v8 nm), .int .i64 q, .int .i64 i, .agg (v8 seed)] w fun e w' => e = .returned (.agg (v8 (xL S (nm ++ n4 q) seed i))) ∧ Below w.heap.size w w' := by
  have hx : xL S (nm ++ n4 q) seed i = S (nm ++ n4 q ++ n2 i ++ [255] ++ seed) := rfl
  have hH : (nm ++ n4 q).length = 20 := by rw [List.length_append, hn, n4_len]
  rw [hx]
  clear hx
  have hSl := hS.len (nm ++ n4 q ++ n2 i ++ [255] ++ seed)
  have hX55 : (nm ++ n4 q ++ n2 i ++ [255] ++ seed).length = 55 := by rw [List.length_append, List.length_append, List.length_append, hH, hs]; rfl
  have hrs : ∀ sp cap w', (sp = none → cap = 0 ∧ 55 = 0) → Bytes w' sp (nm ++ n4 q ++ n2 i ++ [255] ++ seed) → Calls Tryd.prog 36 #[.slice sp 55 cap] w' fun e w'' => e = .returned (.agg (v8 (S (nm ++ n4 q ++ n2 i ++ [255] ++ seed)))) ∧ Below w'.heap.size w' w'' := fun sp cap w' h1 h2 => hS.rsum _ sp 55 cap w' hX55 (by omega) h1 h2
  obtain ⟨Y, hY⟩ : ∃ Y, Y = S (nm ++ n4 q ++ n2 i ++ [255] ++ seed) := ⟨_, rfl⟩
  rw [← hY] at hSl hrs ⊢
  clear hY
  obtain ⟨cs, hcs⟩ : ∃ cs : List Value, v8 Y = cs.toArray := ⟨(v8 Y).toList, by simp⟩
  have hl24 : cs.length = 32 := by have := v8_size Y; rw [hcs, hSl] at this; simpa using this
  have h124 : ∀ v ∈ cs, v.oneCell' = true := fun v hv => (Array.all_eq_true_iff_forall_mem.1 (v8_one Y)) v (by rw [hcs]; simpa using hv)
  rw [hcs] at hrs ⊢
  have z32 := zv32
  go_enter Tryd.func35, Tryd.ntmps35
  go_upto_region 1 with fail
  have r0 : Row (World.alloc (World.alloc (World.alloc w (.cells (v8 nm) 22)) (.cells (v8 seed) 24)) (.cells (v8 (zer 32)) 24)) w.heap.size 22 (v8 nm) := ((Row.new _ _ _).alloc _).alloc _
  have r1 : Row (World.alloc (World.alloc (World.alloc w (.cells (v8 nm) 22)) (.cells (v8 seed) 24)) (.cells (v8 (zer 32)) 24)) (w.heap.size + 1) 24 (v8 seed) := (Row.newAt _ _ _ _ (by simp)).alloc _
  have r2 : Row (World.alloc (World.alloc (World.alloc w (.cells (v8 nm) 22)) (.cells (v8 seed) 24)) (.cells (v8 (zer 32)) 24)) (w.heap.size + 2) 24 (v8 (zer 32)) := Row.newAt _ _ _ _ (by simp)
  have b1 : Below w.heap.size w (World.alloc (World.alloc (World.alloc w (.cells (v8 nm) 22)) (.cells (v8 seed) 24)) (.cells (v8 (zer 32)) 24)) := (((Below.refl _ _).alloc (Nat.le_refl _) _).alloc (by simp) _).alloc (by simp; omega) _
  change Code.wp _ _ _ _ ((World.alloc (World.alloc (World.alloc w (.cells (v8 nm) 22)) (.cells (v8 seed) 24)) (.cells (v8 (zer 32)) 24)))
  generalize (World.alloc (World.alloc (World.alloc w (.cells (v8 nm) 22)) (.cells (v8 seed) 24)) (.cells (v8 (zer 32)) 24)) = w1 at r0 r1 r2 b1 ⊢
  have hr2 := r2.lt
  have hu22 : Tryd.prog.underlying 22 = some (.array 16 5) := Tryd.underlying22
  have hi22 : (Tryd.prog.info? 22).map (·.size) = some (v8 nm).toList.length := by rw [Array.length_toList]; exact name_info hn
  have hl22 : (v8 nm).toList.length = 16 := by rw [Array.length_toList, v8_size, hn]
  have h122 : ∀ v ∈ (v8 nm).toList, v.oneCell' = true := fun v hv => (Array.all_eq_true_iff_forall_mem.1 (v8_one nm)) v (by simpa using hv)
  have ra0 := range_row r0
  obtain ⟨B, hB⟩ : ∃ B, B = w1.heap.size := ⟨_, rfl⟩
  have hH2 : (nm ++ n4 q ++ n2 i).length = 22 := by rw [List.length_append, hH]; rfl
  have hX23 : (nm ++ n4 q ++ n2 i ++ [255]).length = 23 := by rw [List.length_append, hH2]; rfl
  have kp : ∀ {w' : World}, Below B w1 w' → w'.rangeAt w.heap.size 0 (v8 nm).toList ∧ w'.there (w.heap.size + 1 + 1) 0 32 := fun hb => ⟨rg ra0 hB hb, there_row (r2.below hb (by omega)) (zer_len 32)⟩
  have kps : ∀ {w' : World}, Below B w1 w' → (w'.setCells (w.heap.size + 1 + 1) 0 cs).rangeAt w.heap.size 0 (v8 nm).toList ∧ (w'.setCells (w.heap.size + 1 + 1) 0 cs).there (w.heap.size + 1 + 1) 0 32 := fun hb => ⟨World.rangeAt_setCells_apart (kp hb).1 _ _ _ (Or.inl (by omega)), World.there_setCells (kp hb).2 _ _ _⟩
  have he7 : ∀ {w' : World}, Below B w1 w' → w'.setCells (w.heap.size + 1 + 1) 0 cs = w'.setRow (w.heap.size + 2) (v8 Y) := fun hb => by
    have := setCells_row (P := Tryd.prog) _ (w.heap.size + 2) 0 24 24 (zer 32) Y (r2.below hb (by omega)) (id_info hSl) (by rw [hSl, zer_len]; omega)
    rw [hcs] at this ⊢
    rw [show spl (zer 32) 0 Y = Y by unfold spl; rw [List.take_zero, List.nil_append, hSl, List.drop_of_length_le (by rw [zer_len]; omega), List.append_nil], hcs] at this
    simpa using this
  have hu24 : Tryd.prog.underlying 24 = some (.array 32 5) := Tryd.underlying24
  have hi24 : (Tryd.prog.info? 24).map (·.size) = some cs.length := by rw [hl24]; kernel_rfl
  go_region_held3 (fun w' => w'.rangeAt w.heap.size 0 (v8 nm).toList ∧ w'.there (w.heap.size + 1 + 1) 0 32) (first | exact kps c7 | exact kp c7 | exact kp c6 | exact kp c5 | exact kp (c4.alloc (by omega) _) | exact kp c4 | exact kp (c3.alloc (by omega) _) | exact kp c3 | exact kp ((Below.refl B w1).drew) | exact kp (((Below.refl B w1).drew).alloc (by show B ≤ w1.heap.size; omega) _)) (first | (go_at_call 33; (with_reducible refine Calls.mono (rhead_any nm q _ hn) ?_); rintro e w3 ⟨sp3, cap3, rfl, o3, b3⟩; (first | (have hl3 : Row w3 w1.heap.size 5 (v8 [255]) := (Row.new w1.drew 5 (v8 [255])).below b3 (by simp); have c3 : Below B w1 w3 := (((Below.refl B w1).drew).alloc (by show B ≤ w1.heap.size; omega) _).trans (b3.mono (by simp; omega)); have o3' : Own8 w3 B 5 (.slice sp3 20 cap3) (nm ++ n4 q) := o3.mono (by simp; omega); have hne : some w1.heap.size ≠ (Value.slice sp3 20 cap3).ownBlock := own_ge o3 (by simp)) | (have c3 : Below B w1 w3 := ((Below.refl B w1).drew).trans (b3.mono (by show B ≤ w1.heap.size; omega)); have o3' : Own8 w3 B 5 (.slice sp3 20 cap3) (nm ++ n4 q) := o3.mono (by show B ≤ w1.heap.size; omega))); have hs3 := c3.size; rw [← hB] at hs3) | (go_at_call 41; (with_reducible refine Calls.mono (rtwo_any (nm ++ n4 q) i (.slice sp3 20 cap3) w3 B o3' (by omega) hs3) ?_); rintro e w4 ⟨sp4, cap4, rfl, o4, b4, g4, hs4⟩; rw [hH] at o4; have c4 : Below B w1 w4 := c3.trans b4; (first | (have hlit : Bytes w4 (some ⟨w1.heap.size, 0, none⟩) [255] := (hl3.grew g4 hne).bytes) | skip)) | (go_at_call 41; (with_reducible refine Calls.mono (rtwo_any (nm ++ n4 q) i (.slice sp3 20 cap3) _ B (o3'.alloc _) (by omega) (by simp; omega)) ?_); rintro e w4 ⟨sp4, cap4, rfl, o4, b4, g4, hs4⟩; rw [hH] at o4; have c4 : Below B w1 w4 := (c3.alloc (by omega) _).trans b4; have hs4' : B ≤ w4.heap.size := (by have := c4.size; omega); have hlit2 : Bytes w4 (some ⟨w3.heap.size, 0, none⟩) [255] := ((Row.new w3 5 (v8 [255])).grew g4 (own_lt o3' (Nat.le_refl _))).bytes) | (refine step8g (.tmp 15) (.tmp 16) 28 5 ?h1 ?h2 B Tryd.underlying28 info5 (.slice sp5 23 cap5) (nm ++ n4 q ++ n2 i ++ [255]) ?h3 ?ho (some ⟨w.heap.size + 1, 0, none⟩) 32 32 seed ?h4 ?h5 ?h6 ?hby ?hlen ?hB ?_; (case h1 => rfl); (case h2 => rfl); (case h3 => rfl); (case h4 => rfl); (case h5 => exact hs); (case h6 => exact (fun h => by cases h)); (case hby => exact hseed); (case ho => exact o5); (case hlen => first | omega | (simp; omega)); (case hB => first | omega | (simp; omega)); rw [hX55]; intro sp6 cap6 w6 o6 b6 _g6; have c6 : Below B w1 w6 := c5.trans b6; have hnil6 := own_nil o6 (by rw [hX55]; omega)) | (go_at_call 36; (with_reducible refine Calls.mono (hrs sp6 cap6 w6 hnil6 o6.bytes) ?_); rintro e w7 ⟨rfl, b7⟩; have c7 : Below B w1 w7 := c6.trans (b7.mono (by have := c6.size; omega))) | (refine step8g (.tmp 13) (.tmp 14) 28 5 ?h1 ?h2 B Tryd.underlying28 info5 (.slice sp4 22 cap4) (nm ++ n4 q ++ n2 i) ?h3 ?ho (some ⟨w1.heap.size, 0, none⟩) 1 1 [255] ?h4 ?h5 ?h6 ?hby ?hlen ?hB ?_; (case h1 => rfl); (case h2 => rfl); (case h3 => rfl); (case h4 => rfl); (case h5 => exact rfl); (case h6 => exact (fun h => by cases h)); (case hby => exact hlit); (case ho => exact o4); (case hlen => first | omega | (simp; omega)); (case hB => first | omega | (simp; omega)); rw [hX23]; intro sp5 cap5 w5 o5 b5 _g5; have c5 : Below B w1 w5 := c4.trans b5; have hs5 := c5.size; have hseed : Bytes w5 (some ⟨w.heap.size + 1, 0, none⟩) seed := (r1.below c5 (by omega)).bytes) | (refine step8g (.tmp 13) (.tmp 14) 28 5 ?h1 ?h2 B Tryd.underlying28 info5 (.slice sp4 22 cap4) (nm ++ n4 q ++ n2 i) ?h3 ?ho (some ⟨w3.heap.size, 0, none⟩) 1 1 [255] ?h4 ?h5 ?h6 ?hby ?hlen ?hB ?_; (case h1 => rfl); (case h2 => rfl); (case h3 => rfl); (case h4 => rfl); (case h5 => exact rfl); (case h6 => exact (fun h => by cases h)); (case hby => exact hlit2); (case ho => exact o4); (case hlen => first | omega | (simp; omega)); (case hB => first | omega | (simp; omega)); rw [hX23]; intro sp5 cap5 w5 o5 b5 _g5; have c5 : Below B w1 w5 := c4.trans b5; have hs5 := c5.size; have hseed : Bytes w5 (some ⟨w.heap.size + 1, 0, none⟩) seed := (r1.below c5 (by omega)).bytes) | (refine step8g (.tmp 13) (.tmp 14) 28 5 ?h1 ?h2 B Tryd.underlying28 info5 (.slice sp4 22 cap4) (nm ++ n4 q ++ n2 i) ?h3 ?ho (some ⟨w4.heap.size, 0, none⟩) 1 1 [255] ?h4 ?h5 ?h6 ?hby ?hlen ?hB ?_; (case h1 => rfl); (case h2 => rfl); (case h3 => rfl); (case h4 => rfl); (case h5 => exact rfl); (case h6 => exact (fun h => by cases h)); (case hby => exact (bytes_lit w4 [255])); (case ho => exact (o4.alloc _)); (case hlen => first | omega | (simp; omega)); (case hB => first | omega | (simp; omega)); rw [hX23]; intro sp5 cap5 w5 o5 b5 _g5; have c5 : Below B w1 w5 := (c4.alloc (by omega) _).trans b5; have hs5 := c5.size; have hseed : Bytes w5 (some ⟨w.heap.size + 1, 0, none⟩) seed := (r1.below c5 (by omega)).bytes) | fail)
  all_goals
    rw [he7 c7]
    have r7 := (r2.below c7 (by omega)).setRow (v8 Y)
    have h7 := below_setRow (g := w.heap.size + 2) (b1.trans (c7.mono (by omega))) (by omega) (v8 Y)
    generalize w7.setRow (w.heap.size + 2) (v8 Y) = w8 at r7 h7 ⊢
    rw [← hcs]
    go_wp2
    exact bodyPost_ret (results_cell_row Tryd.results35 _ _ (w.heap.size + 2) 24 (v8 Y) (0, 0) _ rfl r7 Tryd.underlying24 rfl (id_info hSl)) rfl ⟨by rw [hcs], h7⟩
end

section
open Go Go.RowKit

set_option maxRecDepth 20000 in
set_option maxHeartbeats 400000 in
theorem rwalk_any (S : List Int → List Int) (hS : Hash S) (nm t : List Int) (q i : Int) (a b : Nat) (w : World) (hn : nm.length = 16) (ht : t.length = 32) (hb : b ≤ 256) :
    Calls Tryd.prog 34 #[.agg (v8 nm), .int .i64 q, .int .i64 i, .int .i64 (a : Int), .int .i64 (b : Int), .agg (v8 t)] w fun e w' => e = .returned (.agg (v8 (walkL S (nm ++ n4 q) i a (b - a) t))) ∧ Below w.heap.size w w' := by
  have hH : (nm ++ n4 q).length = 20 := by rw [List.length_append, hn, n4_len]
  have hlen := walkL_len (fun l => hS.len l) (nm ++ n4 q) i a t ht
  have hstep : ∀ k, walkL S (nm ++ n4 q) i a (k + 1) t = S (nm ++ n4 q ++ n2 i ++ [((a : Int) + (k : Int))] ++ walkL S (nm ++ n4 q) i a k t) := fun k => by
    simp only [walkL, stepL]; rw [Int.natCast_add]
  have hT0 : walkL S (nm ++ n4 q) i a 0 t = t := rfl
  have hst' : Hid (∀ k, walkL S (nm ++ n4 q) i a (k + 1) t = S (nm ++ n4 q ++ n2 i ++ [((a : Int) + (k : Int))] ++ walkL S (nm ++ n4 q) i a k t)) := hstep
  clear hstep
  generalize walkL S (nm ++ n4 q) i a = T at *
  have z32 := zv32
  go_enter Tryd.func34, Tryd.ntmps34
  go_upto_region 1 with fail
  have r0 : Row (World.alloc (World.alloc (World.alloc w (.cells (v8 nm) 22)) (.cells (v8 t) 24)) (.cells (v8 (zer 32)) 24)) w.heap.size 22 (v8 nm) := ((Row.new _ _ _).alloc _).alloc _
  have r1 : Row (World.alloc (World.alloc (World.alloc w (.cells (v8 nm) 22)) (.cells (v8 t) 24)) (.cells (v8 (zer 32)) 24)) (w.heap.size + 1) 24 (v8 t) := (Row.newAt _ _ _ _ (by simp)).alloc _
  have r2 : Row (World.alloc (World.alloc (World.alloc w (.cells (v8 nm) 22)) (.cells (v8 t) 24)) (.cells (v8 (zer 32)) 24)) (w.heap.size + 2) 24 (v8 (zer 32)) := Row.newAt _ _ _ _ (by simp)
  have b1 : Below w.heap.size w (World.alloc (World.alloc (World.alloc w (.cells (v8 nm) 22)) (.cells (v8 t) 24)) (.cells (v8 (zer 32)) 24)) := (((Below.refl _ _).alloc (Nat.le_refl _) _).alloc (by simp) _).alloc (by simp; omega) _
  change Code.wp _ _ _ _ ((World.alloc (World.alloc (World.alloc w (.cells (v8 nm) 22)) (.cells (v8 t) 24)) (.cells (v8 (zer 32)) 24)))
  generalize (World.alloc (World.alloc (World.alloc w (.cells (v8 nm) 22)) (.cells (v8 t) 24)) (.cells (v8 (zer 32)) 24)) = w1 at r0 r1 r2 b1 ⊢
  clear z32
  go_wp2
  go_loopw [13] (fun v wr => ∃ k : Nat, (k = 0 ∨ a + k ≤ b) ∧ v = .int .i64 ((a : Int) + (k : Int)) ∧ Row wr w.heap.size 22 (v8 nm) ∧ Row wr (w.heap.size + 1) 24 (v8 (T k t)) ∧ Row wr (w.heap.size + 2) 24 (v8 (zer 32)) ∧ Below w.heap.size w wr) (fun v _ => b - (intOf v).toNat)
  case atStart => exact ⟨0, Or.inl rfl, by simp, r0, by rw [hT0]; exact r1, r2, b1⟩
  case round =>
    clear r0 r1 r2 b1
    obtain ⟨k, hk, rfl, q0, q1, q2, qb⟩ := hrel
    have hq2 := q2.lt
    by_cases hlt : a + k < b
    · have d1 : decide ((a : Int) + (k : Int) < (b : Int)) = true := by simp; omega
      have d2 : (a : Int) + (k : Int) < (b : Int) := by omega
      have hTk := hlen k
      have hwj : IntKind.u8.wrap ((a : Int) + (k : Int)) = ((a : Int) + (k : Int)) := by rw [IntKind.wrap_u8]; omega
      have hnx : T (k + 1) t = S (nm ++ n4 q ++ n2 i ++ [(IntKind.u8.wrap ((a : Int) + (k : Int)))] ++ T k t) := by rw [hwj]; exact hst'.out k
      clear hwj
      have hSl := hS.len (nm ++ n4 q ++ n2 i ++ [(IntKind.u8.wrap ((a : Int) + (k : Int)))] ++ (T k t))
      have hX55 : (nm ++ n4 q ++ n2 i ++ [(IntKind.u8.wrap ((a : Int) + (k : Int)))] ++ (T k t)).length = 55 := by rw [List.length_append, List.length_append, List.length_append, hH, hTk]; rfl
      have hrs : ∀ sp cap w', (sp = none → cap = 0 ∧ 55 = 0) → Bytes w' sp (nm ++ n4 q ++ n2 i ++ [(IntKind.u8.wrap ((a : Int) + (k : Int)))] ++ (T k t)) → Calls Tryd.prog 36 #[.slice sp 55 cap] w' fun e w'' => e = .returned (.agg (v8 (S (nm ++ n4 q ++ n2 i ++ [(IntKind.u8.wrap ((a : Int) + (k : Int)))] ++ (T k t))))) ∧ Below w'.heap.size w' w'' := fun sp cap w' h1 h2 => hS.rsum _ sp 55 cap w' hX55 (by omega) h1 h2
      rw [← hnx] at hSl hrs
      obtain ⟨Y, hY⟩ : ∃ Y, Y = T (k + 1) t := ⟨_, rfl⟩
      rw [← hY] at hSl hrs
      have hY' : Hid (Y = T (k + 1) t) := hY
      clear hY hnx
      obtain ⟨cs, hcs⟩ : ∃ cs : List Value, v8 Y = cs.toArray := ⟨(v8 Y).toList, by simp⟩
      have hl24 : cs.length = 32 := by have := v8_size Y; rw [hcs, hSl] at this; simpa using this
      have h124 : ∀ v ∈ cs, v.oneCell' = true := fun v hv => (Array.all_eq_true_iff_forall_mem.1 (v8_one Y)) v (by rw [hcs]; simpa using hv)
      rw [hcs] at hrs
      generalize hTT : T k t = TK at *
      have hTT' : Hid (T k t = TK) := hTT
      clear hTT
      go_upto_region 4 with fail
      have hu22 : Tryd.prog.underlying 22 = some (.array 16 5) := Tryd.underlying22
      have hi22 : (Tryd.prog.info? 22).map (·.size) = some (v8 nm).toList.length := by rw [Array.length_toList]; exact name_info hn
      have hl22 : (v8 nm).toList.length = 16 := by rw [Array.length_toList, v8_size, hn]
      have h122 : ∀ v ∈ (v8 nm).toList, v.oneCell' = true := fun v hv => (Array.all_eq_true_iff_forall_mem.1 (v8_one nm)) v (by simpa using hv)
      have ra0 := range_row q0
      obtain ⟨B, hB⟩ : ∃ B, B = wr.heap.size := ⟨_, rfl⟩
      have hH2 : (nm ++ n4 q ++ n2 i).length = 22 := by rw [List.length_append, hH]; rfl
      have hX23 : (nm ++ n4 q ++ n2 i ++ [(IntKind.u8.wrap ((a : Int) + (k : Int)))]).length = 23 := by rw [List.length_append, hH2]; rfl
      have kp : ∀ {w' : World}, Below B wr w' → w'.rangeAt w.heap.size 0 (v8 nm).toList ∧ w'.there (w.heap.size + 1) 0 32 := fun hb => ⟨rg ra0 hB hb, there_row (q1.below hb (by omega)) hTk⟩
      have kps : ∀ {w' : World}, Below B wr w' → (w'.setCells (w.heap.size + 1) 0 cs).rangeAt w.heap.size 0 (v8 nm).toList ∧ (w'.setCells (w.heap.size + 1) 0 cs).there (w.heap.size + 1) 0 32 := fun hb => ⟨World.rangeAt_setCells_apart (kp hb).1 _ _ _ (Or.inl (by omega)), World.there_setCells (kp hb).2 _ _ _⟩
      have he7 : ∀ {w' : World}, Below B wr w' → w'.setCells (w.heap.size + 1) 0 cs = w'.setRow (w.heap.size + 1) (v8 Y) := fun hb => by
        have := setCells_row (P := Tryd.prog) _ (w.heap.size + 1) 0 24 24 TK Y (q1.below hb (by omega)) (id_info hSl) (by rw [hSl, hTk]; omega)
        rw [hcs] at this ⊢
        rw [show spl TK 0 Y = Y by unfold spl; rw [List.take_zero, List.nil_append, hSl, List.drop_of_length_le (by rw [hTk]; omega), List.append_nil], hcs] at this
        simpa using this
      have hu24 : Tryd.prog.underlying 24 = some (.array 32 5) := Tryd.underlying24
      have hi24 : (Tryd.prog.info? 24).map (·.size) = some cs.length := by rw [hl24]; kernel_rfl
      go_region_held3 (fun w' => w'.rangeAt w.heap.size 0 (v8 nm).toList ∧ w'.there (w.heap.size + 1) 0 32) (first | exact kps c7 | exact kp c7 | exact kp c6 | exact kp c5 | exact kp (c4.alloc (by omega) _) | exact kp c4 | exact kp (c3.alloc (by omega) _) | exact kp c3 | exact kp ((Below.refl B wr).drew) | exact kp (((Below.refl B wr).drew).alloc (by show B ≤ wr.heap.size; omega) _)) (first | (go_at_call 33; (with_reducible refine Calls.mono (rhead_any nm q _ hn) ?_); rintro e w3 ⟨sp3, cap3, rfl, o3, b3⟩; (first | (have hl3 : Row w3 wr.heap.size 5 (v8 [(IntKind.u8.wrap ((a : Int) + (k : Int)))]) := (Row.new wr.drew 5 (v8 [(IntKind.u8.wrap ((a : Int) + (k : Int)))])).below b3 (by simp); have c3 : Below B wr w3 := (((Below.refl B wr).drew).alloc (by show B ≤ wr.heap.size; omega) _).trans (b3.mono (by simp; omega)); have o3' : Own8 w3 B 5 (.slice sp3 20 cap3) (nm ++ n4 q) := o3.mono (by simp; omega); have hne : some wr.heap.size ≠ (Value.slice sp3 20 cap3).ownBlock := own_ge o3 (by simp)) | (have c3 : Below B wr w3 := ((Below.refl B wr).drew).trans (b3.mono (by show B ≤ wr.heap.size; omega)); have o3' : Own8 w3 B 5 (.slice sp3 20 cap3) (nm ++ n4 q) := o3.mono (by show B ≤ wr.heap.size; omega))); have hs3 := c3.size; rw [← hB] at hs3) | (go_at_call 41; (with_reducible refine Calls.mono (rtwo_any (nm ++ n4 q) i (.slice sp3 20 cap3) w3 B o3' (by omega) hs3) ?_); rintro e w4 ⟨sp4, cap4, rfl, o4, b4, g4, hs4⟩; rw [hH] at o4; have c4 : Below B wr w4 := c3.trans b4; (first | (have hlit : Bytes w4 (some ⟨wr.heap.size, 0, none⟩) [(IntKind.u8.wrap ((a : Int) + (k : Int)))] := (hl3.grew g4 hne).bytes) | skip)) | (go_at_call 41; (with_reducible refine Calls.mono (rtwo_any (nm ++ n4 q) i (.slice sp3 20 cap3) _ B (o3'.alloc _) (by omega) (by simp; omega)) ?_); rintro e w4 ⟨sp4, cap4, rfl, o4, b4, g4, hs4⟩; rw [hH] at o4; have c4 : Below B wr w4 := (c3.alloc (by omega) _).trans b4; have hs4' : B ≤ w4.heap.size := (by have := c4.size; omega); have hlit2 : Bytes w4 (some ⟨w3.heap.size, 0, none⟩) [(IntKind.u8.wrap ((a : Int) + (k : Int)))] := ((Row.new w3 5 (v8 [(IntKind.u8.wrap ((a : Int) + (k : Int)))])).grew g4 (own_lt o3' (Nat.le_refl _))).bytes) | (refine step8g (.tmp 28) (.tmp 29) 28 5 ?h1 ?h2 B Tryd.underlying28 info5 (.slice sp5 23 cap5) (nm ++ n4 q ++ n2 i ++ [(IntKind.u8.wrap ((a : Int) + (k : Int)))]) ?h3 ?ho (some ⟨w.heap.size + 1, 0, none⟩) 32 32 TK ?h4 ?h5 ?h6 ?hby ?hlen ?hB ?_; (case h1 => rfl); (case h2 => rfl); (case h3 => rfl); (case h4 => rfl); (case h5 => exact hTk); (case h6 => exact (fun h => by cases h)); (case hby => exact hseed); (case ho => exact o5); (case hlen => first | omega | (simp; omega)); (case hB => first | omega | (simp; omega)); rw [hX55]; intro sp6 cap6 w6 o6 b6 _g6; have c6 : Below B wr w6 := c5.trans b6; have hnil6 := own_nil o6 (by rw [hX55]; omega)) | (go_at_call 36; (with_reducible refine Calls.mono (hrs sp6 cap6 w6 hnil6 o6.bytes) ?_); rintro e w7 ⟨rfl, b7⟩; have c7 : Below B wr w7 := c6.trans (b7.mono (by have := c6.size; omega))) | (refine step8g (.tmp 24) (.tmp 27) 28 5 ?h1 ?h2 B Tryd.underlying28 info5 (.slice sp4 22 cap4) (nm ++ n4 q ++ n2 i) ?h3 ?ho (some ⟨wr.heap.size, 0, none⟩) 1 1 [(IntKind.u8.wrap ((a : Int) + (k : Int)))] ?h4 ?h5 ?h6 ?hby ?hlen ?hB ?_; (case h1 => rfl); (case h2 => rfl); (case h3 => rfl); (case h4 => rfl); (case h5 => exact rfl); (case h6 => exact (fun h => by cases h)); (case hby => exact hlit); (case ho => exact o4); (case hlen => first | omega | (simp; omega)); (case hB => first | omega | (simp; omega)); rw [hX23]; intro sp5 cap5 w5 o5 b5 _g5; have c5 : Below B wr w5 := c4.trans b5; have hs5 := c5.size; have hseed : Bytes w5 (some ⟨w.heap.size + 1, 0, none⟩) TK := (q1.below c5 (by omega)).bytes) | (refine step8g (.tmp 24) (.tmp 27) 28 5 ?h1 ?h2 B Tryd.underlying28 info5 (.slice sp4 22 cap4) (nm ++ n4 q ++ n2 i) ?h3 ?ho (some ⟨w3.heap.size, 0, none⟩) 1 1 [(IntKind.u8.wrap ((a : Int) + (k : Int)))] ?h4 ?h5 ?h6 ?hby ?hlen ?hB ?_; (case h1 => rfl); (case h2 => rfl); (case h3 => rfl); (case h4 => rfl); (case h5 => exact rfl); (case h6 => exact (fun h => by cases h)); (case hby => exact hlit2); (case ho => exact o4); (case hlen => first | omega | (simp; omega)); (case hB => first | omega | (simp; omega)); rw [hX23]; intro sp5 cap5 w5 o5 b5 _g5; have c5 : Below B wr w5 := c4.trans b5; have hs5 := c5.size; have hseed : Bytes w5 (some ⟨w.heap.size + 1, 0, none⟩) TK := (q1.below c5 (by omega)).bytes) | (refine step8g (.tmp 24) (.tmp 27) 28 5 ?h1 ?h2 B Tryd.underlying28 info5 (.slice sp4 22 cap4) (nm ++ n4 q ++ n2 i) ?h3 ?ho (some ⟨w4.heap.size, 0, none⟩) 1 1 [(IntKind.u8.wrap ((a : Int) + (k : Int)))] ?h4 ?h5 ?h6 ?hby ?hlen ?hB ?_; (case h1 => rfl); (case h2 => rfl); (case h3 => rfl); (case h4 => rfl); (case h5 => exact rfl); (case h6 => exact (fun h => by cases h)); (case hby => exact (bytes_lit w4 [(IntKind.u8.wrap ((a : Int) + (k : Int)))])); (case ho => exact (o4.alloc _)); (case hlen => first | omega | (simp; omega)); (case hB => first | omega | (simp; omega)); rw [hX23]; intro sp5 cap5 w5 o5 b5 _g5; have c5 : Below B wr w5 := (c4.alloc (by omega) _).trans b5; have hs5 := c5.size; have hseed : Bytes w5 (some ⟨w.heap.size + 1, 0, none⟩) TK := (q1.below c5 (by omega)).bytes) | fail)
      all_goals
        rw [he7 c7]
        have s0 := (q0.below c7 (by omega)).setRowOther (g := w.heap.size + 1) (by omega) (v8 Y)
        have s1 := (q1.below c7 (by omega)).setRow (v8 Y)
        have s2 := (q2.below c7 (by omega)).setRowOther (g := w.heap.size + 1) (by omega) (v8 Y)
        have sb := below_setRow (g := w.heap.size + 1) (qb.trans (c7.mono (by have := qb.size; omega))) (by omega) (v8 Y)
        generalize w7.setRow (w.heap.size + 1) (v8 Y) = w8 at s0 s1 s2 sb ⊢
        go_wp2
        go_roundw
        case rel => exact ⟨k + 1, Or.inr (by omega), by go_num, s0, by rw [← hY'.out]; exact s1, s2, sb⟩
        case measure => simp [intOf]; omega
    · have d1 : decide ((a : Int) + (k : Int) < (b : Int)) = false := by simp; omega
      have d2 : ¬ (a : Int) + (k : Int) < (b : Int) := by omega
      have hkk : b - a = k := by omega
      have hl1 := hlen k
      go_wp2_with (first | (refine wpList_load_row (by rfl) 24 (.tmp 11) (by rfl) (w.heap.size + 1) (by rfl) 24 (v8 (T k t)) (0, 0) _ q1 Tryd.underlying24 rfl (id_info hl1) ?_) | (refine store_row0 24 (.tmp 12) (.tmp 32) (by rfl) (by rfl) (by rfl) (w.heap.size + 2) (v8 (T k t)) (by rfl) (by rfl) 24 _ q2 (id_info hl1) (by rw [v8_size, v8_size, hl1, zer_len]) (v8_one _) ?_))
      exact bodyPost_ret (results_cell_row Tryd.results34 _ _ (w.heap.size + 2) 24 (v8 (T k t)) (0, 0) _ rfl (q2.setRow _) Tryd.underlying24 rfl (id_info hl1)) rfl ⟨rfl, below_setRow qb (by omega) _⟩
end

section
open Go Go.RowKit

set_option maxRecDepth 20000 in
set_option maxHeartbeats 400000 in
theorem rdigit0 (x : Int) (b o len cap i : Nat) (w : World) (hi : i / 4 < len) (hl : len ≤ 1000000) (hr : (i : Int) % 4 = 0) (h0 : 0 ≤ x) (h1 : x < 256) (hc : w.cell? ⟨b, o + i / 4, none⟩ = some (.int .u8 x)) :
    Calls Tryd.prog 64 #[.slice (some ⟨b, o, none⟩) len cap, .int .i64 (i : Int)] w fun e w' => e = .returned (.int .i64 (x / 2 ^ 6 % 4)) ∧ w' = w := by
  have h := and3 (x / 64) (by omega) (by omega)
  have hi2 : (i : Int) / 4 < (len : Int) := by omega
  go_enter Tryd.func64, Tryd.ntmps64
  go_wp2
  go_ret
  exact ⟨rfl, rfl⟩

set_option maxRecDepth 20000 in
set_option maxHeartbeats 400000 in
theorem rdigit1 (x : Int) (b o len cap i : Nat) (w : World) (hi : i / 4 < len) (hl : len ≤ 1000000) (hr : (i : Int) % 4 = 1) (h0 : 0 ≤ x) (h1 : x < 256) (hc : w.cell? ⟨b, o + i / 4, none⟩ = some (.int .u8 x)) :
    Calls Tryd.prog 64 #[.slice (some ⟨b, o, none⟩) len cap, .int .i64 (i : Int)] w fun e w' => e = .returned (.int .i64 (x / 2 ^ 4 % 4)) ∧ w' = w := by
  have h := and3 (x / 16) (by omega) (by omega)
  have hi2 : (i : Int) / 4 < (len : Int) := by omega
  go_enter Tryd.func64, Tryd.ntmps64
  go_wp2
  go_ret
  exact ⟨rfl, rfl⟩

set_option maxRecDepth 20000 in
set_option maxHeartbeats 400000 in
theorem rdigit2 (x : Int) (b o len cap i : Nat) (w : World) (hi : i / 4 < len) (hl : len ≤ 1000000) (hr : (i : Int) % 4 = 2) (h0 : 0 ≤ x) (h1 : x < 256) (hc : w.cell? ⟨b, o + i / 4, none⟩ = some (.int .u8 x)) :
    Calls Tryd.prog 64 #[.slice (some ⟨b, o, none⟩) len cap, .int .i64 (i : Int)] w fun e w' => e = .returned (.int .i64 (x / 2 ^ 2 % 4)) ∧ w' = w := by
  have h := and3 (x / 4) (by omega) (by omega)
  have hi2 : (i : Int) / 4 < (len : Int) := by omega
  go_enter Tryd.func64, Tryd.ntmps64
  go_wp2
  go_ret
  exact ⟨rfl, rfl⟩

set_option maxRecDepth 20000 in
set_option maxHeartbeats 400000 in
theorem rdigit3 (x : Int) (b o len cap i : Nat) (w : World) (hi : i / 4 < len) (hl : len ≤ 1000000) (hr : (i : Int) % 4 = 3) (h0 : 0 ≤ x) (h1 : x < 256) (hc : w.cell? ⟨b, o + i / 4, none⟩ = some (.int .u8 x)) :
    Calls Tryd.prog 64 #[.slice (some ⟨b, o, none⟩) len cap, .int .i64 (i : Int)] w fun e w' => e = .returned (.int .i64 (x / 2 ^ 0 % 4)) ∧ w' = w := by
  have h := and3 x (by omega) (by omega)
  have hi2 : (i : Int) / 4 < (len : Int) := by omega
  go_enter Tryd.func64, Tryd.ntmps64
  go_wp2
  go_ret
  exact ⟨by simp, rfl⟩

theorem rdigit_any (bs : List Int) (sp : Option Addr) (len cap i : Nat) (w : World) (hl : bs.length = len) (hm : len ≤ 1000000) (hi : i / 4 < len) (h8 : In8 bs) (hby : Bytes w sp bs) :
    Calls Tryd.prog 64 #[.slice sp len cap, .int .i64 (i : Int)] w fun e w' => e = .returned (.int .i64 (digN bs i)) ∧ w' = w := by
  obtain ⟨b, o, rfl, hc⟩ := hby (by omega)
  have c1 := hc (i / 4) (by omega)
  obtain ⟨h0, h1⟩ := h8 (i / 4)
  unfold digN
  rcases (by omega : i % 4 = 0 ∨ i % 4 = 1 ∨ i % 4 = 2 ∨ i % 4 = 3) with h | h | h | h <;> rw [h]
  · exact rdigit0 _ b o len cap i w hi hm (by omega) h0 h1 c1
  · exact rdigit1 _ b o len cap i w hi hm (by omega) h0 h1 c1
  · exact rdigit2 _ b o len cap i w hi hm (by omega) h0 h1 c1
  · exact rdigit3 _ b o len cap i w hi hm (by omega) h0 h1 c1
end

end Go.Proofs.YtoebnkepeledmaaDoor
