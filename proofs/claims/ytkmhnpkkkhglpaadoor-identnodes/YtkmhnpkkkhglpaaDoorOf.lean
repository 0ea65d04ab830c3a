/- ident.Of and the reference's Of: the hash of 'node' and the number's byte, for the numbers 0 to 255; they turn no old memory. -/
import Derived.Test.YtkmhnpkkkhglpaaDoorRef
import Derived.Test.YtkmhnpkkkhglpaaDoorKeys
import Derived.ArgAppend
import Derived.Lib.SlBytesConst
namespace Go.Proofs.YtkmhnpkkkhglpaaDoor
open Go.RowKit

theorem grow_newAt (w : World) (t : TypeId) (vs : Array Value) (fr : Nat × Nat) (b : Nat) (hb : b = w.heap.size) : GRow (w.alloc (.cells vs t fr)) b vs := by subst hb; exact ⟨t, fr, by show (w.heap.push _)[w.heap.size]? = _; simp⟩
theorem shaS_len (bs : List Int) : (shaS bs).length = 32 := idN_length _ 8 (by omega)

theorem own_cap {w : World} {B : Nat} {e : TypeId} {sp : Option Addr} {n cap : Nat} {l : List Int} (h : Own8 w B e (.slice sp n cap) l) : n ≤ cap := by
  obtain ⟨hl, h⟩ := h
  rcases h with ⟨hv, h0⟩ | ⟨g, cap', cur, hv, hg, hh, hn, hc, hs, ht⟩
  · injection hv with e1 e2 e3; omega
  · injection hv with e1 e2 e3; omega
theorem own_nil {w : World} {B : Nat} {e : TypeId} {sp : Option Addr} {n cap : Nat} {l : List Int} (h : Own8 w B e (.slice sp n cap) l) : sp = none → cap = 0 ∧ n = 0 := fun hsp => by
  obtain ⟨hl, h⟩ := h
  rcases h with ⟨hv, h0⟩ | ⟨g, cap', cur, hv, hg, hh, hn, hc, hs, ht⟩
  · injection hv with e1 e2 e3; omega
  · injection hv with e1 e2 e3; rw [hsp] at e1; cases e1

/-- 'append' of bytes onto a full slice: a new block. -/
theorem append8f {P : Program} {w : World} {ops : Array Oper} {rest : List Oper} {o : Oper} {a : Act} {Q : Exit → Act → World → Prop} (s x : Operand) (t e : TypeId)
    (ho : o.op = .call { callee := .builtin .append, args := #[s, x], argTypes := #[t, t] }) (hgd : o.guard = none)
    (ht : P.underlying t = some (.slice e)) (hinfo : (P.info? e).map (fun i => (i.zero, i.size, i.bytes)) = some (some (.int .u8 0), 1, 1))
    (b n : Nat) (l cs : List Int) (hs : a.eval s = .slice (some ⟨b, 0, none⟩) n n) (hl : l.length = n) (hby : Bytes w (some ⟨b, 0, none⟩) l)
    (b2 m c : Nat) (hx : a.eval x = .slice (some ⟨b2, 0, none⟩) m c) (hm : cs.length = m) (hm0 : 0 < m) (hby2 : Bytes w (some ⟨b2, 0, none⟩) cs) (hlen : n + m ≤ 1048576)
    (h : ∀ sp' cap' w', Own8 w' w.heap.size e (.slice sp' (l ++ cs).length cap') (l ++ cs) → Below w.heap.size w w' → wpList P ops Q rest (a.put o.dst (.slice sp' (l ++ cs).length cap')) w') : wpList P ops Q (o :: rest) a w := by
  obtain ⟨i, hi, hz, h1, h2⟩ : ∃ i, P.info? e = some i ∧ i.zero = some (.int .u8 0) ∧ i.size = 1 ∧ i.bytes = 1 := by
    cases hq : P.info? e with
    | none => simp [hq] at hinfo
    | some i => simp [hq] at hinfo; exact ⟨i, rfl, hinfo.1, hinfo.2.1, hinfo.2.2⟩
  have src : ∀ {b : Nat} {l : List Int}, Bytes w (some ⟨b, 0, none⟩) l → ∀ j u, (l.map (Value.int .u8))[j]? = some u → w.cell? ((⟨b, 0, none⟩ : Addr).add j) = some u := fun {b l} hb j u hu => by
    have hj : j < l.length := by have := (List.getElem?_eq_some_iff.1 hu).1; simpa using this
    obtain ⟨b', ob, eb, hc⟩ := hb (by omega)
    cases eb
    rw [Addr.add_mid, hc j hj, ← hu]; simp [gi, hj]
  refine wpList_append_grows w hgd s x t ho e i (.int .u8 0) 1 1 ht hi hz h1 h2 rfl (by decide) (some ⟨b, 0, none⟩) n n (l.map (Value.int .u8)) hs (fun hh => by cases hh) (by simp [hl]) (fun bb hb => by cases hb; exact src hby) ⟨b2, 0, none⟩ m c (cs.map (Value.int .u8)) hx (by simp [hm]) (src hby2) (fun u hu => ?_) (by omega) (by unfold maxLen; omega) (by omega) (fun v' w' ho' hg' => ?_)
  · obtain ⟨y, _, rfl⟩ := List.mem_map.1 hu; rfl
  · have hO : Own8 w' w.heap.size e v' (l ++ cs) := by
      unfold Own8
      rw [List.length_append, List.map_append, hl, hm]; exact ho'
    obtain ⟨sp', cap', rfl⟩ := hO.form
    exact h sp' cap' w' hO ((Below.refl w.heap.size w).grown hg' (Nat.le_refl _) (fun k hk => by cases hk))

set_option maxRecDepth 20000 in
set_option maxHeartbeats 1000000 in
theorem of_any (i : Nat) (w : World) (hL : Laid w) (hi : i < 256) :
    Calls Tryd.prog 5 #[.int .i64 i] w fun e w' => e = .returned (.agg (v8 (shaS (nodeB i)))) ∧ Below w.heap.size w w' := by
  have hcv : (convert 30 30 (.slice (some ⟨w.heap.size + 1, 0, none⟩) 4 4)).run Tryd.prog ((w.alloc (.cells #[.int .u8 0, .int .u8 0, .int .u8 0, .int .u8 0, .int .u8 0, .int .u8 0, .int .u8 0, .int .u8 0, .int .u8 0, .int .u8 0, .int .u8 0, .int .u8 0, .int .u8 0, .int .u8 0, .int .u8 0, .int .u8 0, .int .u8 0, .int .u8 0, .int .u8 0, .int .u8 0, .int .u8 0, .int .u8 0, .int .u8 0, .int .u8 0, .int .u8 0, .int .u8 0, .int .u8 0, .int .u8 0, .int .u8 0, .int .u8 0, .int .u8 0, .int .u8 0] 24)).alloc (.cells #[.int .u8 110, .int .u8 111, .int .u8 100, .int .u8 101] 5)) = .ok (.slice (some ⟨w.heap.size + 1, 0, none⟩) 4 4) ((w.alloc (.cells #[.int .u8 0, .int .u8 0, .int .u8 0, .int .u8 0, .int .u8 0, .int .u8 0, .int .u8 0, .int .u8 0, .int .u8 0, .int .u8 0, .int .u8 0, .int .u8 0, .int .u8 0, .int .u8 0, .int .u8 0, .int .u8 0, .int .u8 0, .int .u8 0, .int .u8 0, .int .u8 0, .int .u8 0, .int .u8 0, .int .u8 0, .int .u8 0, .int .u8 0, .int .u8 0, .int .u8 0, .int .u8 0, .int .u8 0, .int .u8 0, .int .u8 0, .int .u8 0] 24)).alloc (.cells #[.int .u8 110, .int .u8 111, .int .u8 100, .int .u8 101] 5 (4, 5))) := by
    have := Lib.run_convert_bytes_const (P := Tryd.prog) (w.alloc (.cells #[.int .u8 0, .int .u8 0, .int .u8 0, .int .u8 0, .int .u8 0, .int .u8 0, .int .u8 0, .int .u8 0, .int .u8 0, .int .u8 0, .int .u8 0, .int .u8 0, .int .u8 0, .int .u8 0, .int .u8 0, .int .u8 0, .int .u8 0, .int .u8 0, .int .u8 0, .int .u8 0, .int .u8 0, .int .u8 0, .int .u8 0, .int .u8 0, .int .u8 0, .int .u8 0, .int .u8 0, .int .u8 0, .int .u8 0, .int .u8 0, .int .u8 0, .int .u8 0] 24)) 30 5 #[.int .u8 110, .int .u8 111, .int .u8 100, .int .u8 101] 4 4 Tryd.underlying30 Tryd.underlying5
    simpa using this
  have b3 : Below w.heap.size w (((w.alloc (.cells #[.int .u8 0, .int .u8 0, .int .u8 0, .int .u8 0, .int .u8 0, .int .u8 0, .int .u8 0, .int .u8 0, .int .u8 0, .int .u8 0, .int .u8 0, .int .u8 0, .int .u8 0, .int .u8 0, .int .u8 0, .int .u8 0, .int .u8 0, .int .u8 0, .int .u8 0, .int .u8 0, .int .u8 0, .int .u8 0, .int .u8 0, .int .u8 0, .int .u8 0, .int .u8 0, .int .u8 0, .int .u8 0, .int .u8 0, .int .u8 0, .int .u8 0, .int .u8 0] 24)).alloc (.cells #[.int .u8 110, .int .u8 111, .int .u8 100, .int .u8 101] 5 (4, 5))).alloc (.cells #[.int .u8 (i : Int)] 5)) := (((Below.refl _ _).alloc (Nat.le_refl _) _).alloc (by simp) _).alloc (by simp; omega) _
  have b4 : Below w.heap.size w ((w.alloc (.cells #[.int .u8 0, .int .u8 0, .int .u8 0, .int .u8 0, .int .u8 0, .int .u8 0, .int .u8 0, .int .u8 0, .int .u8 0, .int .u8 0, .int .u8 0, .int .u8 0, .int .u8 0, .int .u8 0, .int .u8 0, .int .u8 0, .int .u8 0, .int .u8 0, .int .u8 0, .int .u8 0, .int .u8 0, .int .u8 0, .int .u8 0, .int .u8 0, .int .u8 0, .int .u8 0, .int .u8 0, .int .u8 0, .int .u8 0, .int .u8 0, .int .u8 0, .int .u8 0] 24)).alloc (.cells #[.int .u8 110, .int .u8 111, .int .u8 100, .int .u8 101] 5 (4, 5))) := ((Below.refl _ _).alloc (Nat.le_refl _) _).alloc (by simp) _
  have hby1 : Bytes (((w.alloc (.cells #[.int .u8 0, .int .u8 0, .int .u8 0, .int .u8 0, .int .u8 0, .int .u8 0, .int .u8 0, .int .u8 0, .int .u8 0, .int .u8 0, .int .u8 0, .int .u8 0, .int .u8 0, .int .u8 0, .int .u8 0, .int .u8 0, .int .u8 0, .int .u8 0, .int .u8 0, .int .u8 0, .int .u8 0, .int .u8 0, .int .u8 0, .int .u8 0, .int .u8 0, .int .u8 0, .int .u8 0, .int .u8 0, .int .u8 0, .int .u8 0, .int .u8 0, .int .u8 0] 24)).alloc (.cells #[.int .u8 110, .int .u8 111, .int .u8 100, .int .u8 101] 5 (4, 5))).alloc (.cells #[.int .u8 (i : Int)] 5)) (some ⟨w.heap.size + 1, 0, none⟩) [110, 111, 100, 101] := fun _ => ⟨_, _, rfl, fun j hj => by
    have hg : GRow ((w.alloc (.cells #[.int .u8 0, .int .u8 0, .int .u8 0, .int .u8 0, .int .u8 0, .int .u8 0, .int .u8 0, .int .u8 0, .int .u8 0, .int .u8 0, .int .u8 0, .int .u8 0, .int .u8 0, .int .u8 0, .int .u8 0, .int .u8 0, .int .u8 0, .int .u8 0, .int .u8 0, .int .u8 0, .int .u8 0, .int .u8 0, .int .u8 0, .int .u8 0, .int .u8 0, .int .u8 0, .int .u8 0, .int .u8 0, .int .u8 0, .int .u8 0, .int .u8 0, .int .u8 0] 24)).alloc (.cells #[.int .u8 110, .int .u8 111, .int .u8 100, .int .u8 101] 5 (4, 5))) (w.heap.size + 1) #[.int .u8 110, .int .u8 111, .int .u8 100, .int .u8 101] := grow_newAt _ _ _ _ _ (by simp)
    rw [(hg.alloc (.cells #[.int .u8 (i : Int)] 5)).cell]
    simp only [List.length_cons, List.length_nil] at hj
    obtain rfl | rfl | rfl | rfl : j = 0 ∨ j = 1 ∨ j = 2 ∨ j = 3 := by omega
    all_goals rfl⟩
  have hby2 : Bytes (((w.alloc (.cells #[.int .u8 0, .int .u8 0, .int .u8 0, .int .u8 0, .int .u8 0, .int .u8 0, .int .u8 0, .int .u8 0, .int .u8 0, .int .u8 0, .int .u8 0, .int .u8 0, .int .u8 0, .int .u8 0, .int .u8 0, .int .u8 0, .int .u8 0, .int .u8 0, .int .u8 0, .int .u8 0, .int .u8 0, .int .u8 0, .int .u8 0, .int .u8 0, .int .u8 0, .int .u8 0, .int .u8 0, .int .u8 0, .int .u8 0, .int .u8 0, .int .u8 0, .int .u8 0] 24)).alloc (.cells #[.int .u8 110, .int .u8 111, .int .u8 100, .int .u8 101] 5 (4, 5))).alloc (.cells #[.int .u8 (i : Int)] 5)) (some ⟨w.heap.size + 1 + 1, 0, none⟩) [(i : Int)] := fun _ => ⟨_, _, rfl, fun j hj => by
    have hr : Row (((w.alloc (.cells #[.int .u8 0, .int .u8 0, .int .u8 0, .int .u8 0, .int .u8 0, .int .u8 0, .int .u8 0, .int .u8 0, .int .u8 0, .int .u8 0, .int .u8 0, .int .u8 0, .int .u8 0, .int .u8 0, .int .u8 0, .int .u8 0, .int .u8 0, .int .u8 0, .int .u8 0, .int .u8 0, .int .u8 0, .int .u8 0, .int .u8 0, .int .u8 0, .int .u8 0, .int .u8 0, .int .u8 0, .int .u8 0, .int .u8 0, .int .u8 0, .int .u8 0, .int .u8 0] 24)).alloc (.cells #[.int .u8 110, .int .u8 111, .int .u8 100, .int .u8 101] 5 (4, 5))).alloc (.cells #[.int .u8 (i : Int)] 5)) (w.heap.size + 1 + 1) 5 #[.int .u8 (i : Int)] := Row.newAt _ _ _ _ (by simp)
    rw [hr.cell]
    simp only [List.length_cons, List.length_nil] at hj
    obtain rfl : j = 0 := by omega
    rfl⟩
  have rz : Row (((w.alloc (.cells #[.int .u8 0, .int .u8 0, .int .u8 0, .int .u8 0, .int .u8 0, .int .u8 0, .int .u8 0, .int .u8 0, .int .u8 0, .int .u8 0, .int .u8 0, .int .u8 0, .int .u8 0, .int .u8 0, .int .u8 0, .int .u8 0, .int .u8 0, .int .u8 0, .int .u8 0, .int .u8 0, .int .u8 0, .int .u8 0, .int .u8 0, .int .u8 0, .int .u8 0, .int .u8 0, .int .u8 0, .int .u8 0, .int .u8 0, .int .u8 0, .int .u8 0, .int .u8 0] 24)).alloc (.cells #[.int .u8 110, .int .u8 111, .int .u8 100, .int .u8 101] 5 (4, 5))).alloc (.cells #[.int .u8 (i : Int)] 5)) w.heap.size 24 (v8 (List.replicate 32 0)) := ((Row.new w 24 _).alloc _).alloc _
  have sz : (Tryd.prog.info? 24).map (·.size) = some (v8 (shaS (nodeB i))).size := by rw [v8_size, shaS_len]; kernel_rfl
  have hold : (v8 (List.replicate 32 0)).size = (v8 (shaS (nodeB i))).size := by rw [v8_size, v8_size, shaS_len]; simp
  have hlen : (nodeB i).length = 5 := rfl
  have q1 : decide ((i : Int) < 0) = false := by simp
  have q2 : decide ((255 : Int) < (i : Int)) = false := by simp; omega
  go_enter Tryd.func5, Tryd.ntmps5
  go_wp2_with (first | (at_builtin; (refine append8f (.tmp 11) (.tmp 14) 30 5 (by rfl) (by rfl) Tryd.underlying30 info5 (w.heap.size + 1) 4 [110, 111, 100, 101] [(i : Int)] (by rfl) rfl hby1 (w.heap.size + 1 + 1) 1 1 (by rfl) rfl (by omega) hby2 (by omega) ?_; intro sp5 cap5 w5 o5 b5; simp only [List.cons_append, List.nil_append, List.length_cons, List.length_nil, Nat.zero_add, Nat.reduceAdd] at o5 ⊢; have hd5 := b3.trans (b5.mono b3.size); have hcall := sum_any (nodeB i) sp5 5 cap5 w5 hlen (own_cap o5) (by omega) (hL.below hd5) o5.bytes)) | (go_at_call 9; with_reducible refine Calls.mono hcall ?_; rintro e w6 ⟨rfl, hb6⟩) | (refine store_row0 24 (.tmp 2) (.tmp 16) (by rfl) (by rfl) (by rfl) w.heap.size (v8 (shaS (nodeB i))) (by rfl) (by rfl) 24 (v8 (List.replicate 32 0)) ((rz.below b5 rz.lt).below hb6 (rz.below b5 rz.lt).lt) sz hold (v8_one _) ?_))
  exact bodyPost_ret (results_cell_row Tryd.results5 _ _ w.heap.size 24 (v8 (shaS (nodeB i))) (0, 0) _ rfl (((rz.below b5 rz.lt).below hb6 (rz.below b5 rz.lt).lt).setRow _) Tryd.underlying24 rfl sz) rfl ⟨rfl, below_setRow (hd5.trans (hb6.mono hd5.size)) (Nat.le_refl _) _⟩

set_option maxRecDepth 20000 in
set_option maxHeartbeats 1000000 in
theorem rof_any (i : Nat) (w : World) (hi : i < 256) :
    Calls Tryd.prog 6 #[.int .i64 i] w fun e w' => e = .returned (.agg (v8 (shaS (nodeB i)))) ∧ Below w.heap.size w w' := by
  have hcv : (convert 30 30 (.slice (some ⟨w.heap.size + 1, 0, none⟩) 4 4)).run Tryd.prog ((w.alloc (.cells #[.int .u8 0, .int .u8 0, .int .u8 0, .int .u8 0, .int .u8 0, .int .u8 0, .int .u8 0, .int .u8 0, .int .u8 0, .int .u8 0, .int .u8 0, .int .u8 0, .int .u8 0, .int .u8 0, .int .u8 0, .int .u8 0, .int .u8 0, .int .u8 0, .int .u8 0, .int .u8 0, .int .u8 0, .int .u8 0, .int .u8 0, .int .u8 0, .int .u8 0, .int .u8 0, .int .u8 0, .int .u8 0, .int .u8 0, .int .u8 0, .int .u8 0, .int .u8 0] 24)).alloc (.cells #[.int .u8 110, .int .u8 111, .int .u8 100, .int .u8 101] 5)) = .ok (.slice (some ⟨w.heap.size + 1, 0, none⟩) 4 4) ((w.alloc (.cells #[.int .u8 0, .int .u8 0, .int .u8 0, .int .u8 0, .int .u8 0, .int .u8 0, .int .u8 0, .int .u8 0, .int .u8 0, .int .u8 0, .int .u8 0, .int .u8 0, .int .u8 0, .int .u8 0, .int .u8 0, .int .u8 0, .int .u8 0, .int .u8 0, .int .u8 0, .int .u8 0, .int .u8 0, .int .u8 0, .int .u8 0, .int .u8 0, .int .u8 0, .int .u8 0, .int .u8 0, .int .u8 0, .int .u8 0, .int .u8 0, .int .u8 0, .int .u8 0] 24)).alloc (.cells #[.int .u8 110, .int .u8 111, .int .u8 100, .int .u8 101] 5 (4, 5))) := by
    have := Lib.run_convert_bytes_const (P := Tryd.prog) (w.alloc (.cells #[.int .u8 0, .int .u8 0, .int .u8 0, .int .u8 0, .int .u8 0, .int .u8 0, .int .u8 0, .int .u8 0, .int .u8 0, .int .u8 0, .int .u8 0, .int .u8 0, .int .u8 0, .int .u8 0, .int .u8 0, .int .u8 0, .int .u8 0, .int .u8 0, .int .u8 0, .int .u8 0, .int .u8 0, .int .u8 0, .int .u8 0, .int .u8 0, .int .u8 0, .int .u8 0, .int .u8 0, .int .u8 0, .int .u8 0, .int .u8 0, .int .u8 0, .int .u8 0] 24)) 30 5 #[.int .u8 110, .int .u8 111, .int .u8 100, .int .u8 101] 4 4 Tryd.underlying30 Tryd.underlying5
    simpa using this
  have b3 : Below w.heap.size w (((w.alloc (.cells #[.int .u8 0, .int .u8 0, .int .u8 0, .int .u8 0, .int .u8 0, .int .u8 0, .int .u8 0, .int .u8 0, .int .u8 0, .int .u8 0, .int .u8 0, .int .u8 0, .int .u8 0, .int .u8 0, .int .u8 0, .int .u8 0, .int .u8 0, .int .u8 0, .int .u8 0, .int .u8 0, .int .u8 0, .int .u8 0, .int .u8 0, .int .u8 0, .int .u8 0, .int .u8 0, .int .u8 0, .int .u8 0, .int .u8 0, .int .u8 0, .int .u8 0, .int .u8 0] 24)).alloc (.cells #[.int .u8 110, .int .u8 111, .int .u8 100, .int .u8 101] 5 (4, 5))).alloc (.cells #[.int .u8 (i : Int)] 5)) := (((Below.refl _ _).alloc (Nat.le_refl _) _).alloc (by simp) _).alloc (by simp; omega) _
  have b4 : Below w.heap.size w ((w.alloc (.cells #[.int .u8 0, .int .u8 0, .int .u8 0, .int .u8 0, .int .u8 0, .int .u8 0, .int .u8 0, .int .u8 0, .int .u8 0, .int .u8 0, .int .u8 0, .int .u8 0, .int .u8 0, .int .u8 0, .int .u8 0, .int .u8 0, .int .u8 0, .int .u8 0, .int .u8 0, .int .u8 0, .int .u8 0, .int .u8 0, .int .u8 0, .int .u8 0, .int .u8 0, .int .u8 0, .int .u8 0, .int .u8 0, .int .u8 0, .int .u8 0, .int .u8 0, .int .u8 0] 24)).alloc (.cells #[.int .u8 110, .int .u8 111, .int .u8 100, .int .u8 101] 5 (4, 5))) := ((Below.refl _ _).alloc (Nat.le_refl _) _).alloc (by simp) _
  have hby1 : Bytes (((w.alloc (.cells #[.int .u8 0, .int .u8 0, .int .u8 0, .int .u8 0, .int .u8 0, .int .u8 0, .int .u8 0, .int .u8 0, .int .u8 0, .int .u8 0, .int .u8 0, .int .u8 0, .int .u8 0, .int .u8 0, .int .u8 0, .int .u8 0, .int .u8 0, .int .u8 0, .int .u8 0, .int .u8 0, .int .u8 0, .int .u8 0, .int .u8 0, .int .u8 0, .int .u8 0, .int .u8 0, .int .u8 0, .int .u8 0, .int .u8 0, .int .u8 0, .int .u8 0, .int .u8 0] 24)).alloc (.cells #[.int .u8 110, .int .u8 111, .int .u8 100, .int .u8 101] 5 (4, 5))).alloc (.cells #[.int .u8 (i : Int)] 5)) (some ⟨w.heap.size + 1, 0, none⟩) [110, 111, 100, 101] := fun _ => ⟨_, _, rfl, fun j hj => by
    have hg : GRow ((w.alloc (.cells #[.int .u8 0, .int .u8 0, .int .u8 0, .int .u8 0, .int .u8 0, .int .u8 0, .int .u8 0, .int .u8 0, .int .u8 0, .int .u8 0, .int .u8 0, .int .u8 0, .int .u8 0, .int .u8 0, .int .u8 0, .int .u8 0, .int .u8 0, .int .u8 0, .int .u8 0, .int .u8 0, .int .u8 0, .int .u8 0, .int .u8 0, .int .u8 0, .int .u8 0, .int .u8 0, .int .u8 0, .int .u8 0, .int .u8 0, .int .u8 0, .int .u8 0, .int .u8 0] 24)).alloc (.cells #[.int .u8 110, .int .u8 111, .int .u8 100, .int .u8 101] 5 (4, 5))) (w.heap.size + 1) #[.int .u8 110, .int .u8 111, .int .u8 100, .int .u8 101] := grow_newAt _ _ _ _ _ (by simp)
    rw [(hg.alloc (.cells #[.int .u8 (i : Int)] 5)).cell]
    simp only [List.length_cons, List.length_nil] at hj
    obtain rfl | rfl | rfl | rfl : j = 0 ∨ j = 1 ∨ j = 2 ∨ j = 3 := by omega
    all_goals rfl⟩
  have hby2 : Bytes (((w.alloc (.cells #[.int .u8 0, .int .u8 0, .int .u8 0, .int .u8 0, .int .u8 0, .int .u8 0, .int .u8 0, .int .u8 0, .int .u8 0, .int .u8 0, .int .u8 0, .int .u8 0, .int .u8 0, .int .u8 0, .int .u8 0, .int .u8 0, .int .u8 0, .int .u8 0, .int .u8 0, .int .u8 0, .int .u8 0, .int .u8 0, .int .u8 0, .int .u8 0, .int .u8 0, .int .u8 0, .int .u8 0, .int .u8 0, .int .u8 0, .int .u8 0, .int .u8 0, .int .u8 0] 24)).alloc (.cells #[.int .u8 110, .int .u8 111, .int .u8 100, .int .u8 101] 5 (4, 5))).alloc (.cells #[.int .u8 (i : Int)] 5)) (some ⟨w.heap.size + 1 + 1, 0, none⟩) [(i : Int)] := fun _ => ⟨_, _, rfl, fun j hj => by
    have hr : Row (((w.alloc (.cells #[.int .u8 0, .int .u8 0, .int .u8 0, .int .u8 0, .int .u8 0, .int .u8 0, .int .u8 0, .int .u8 0, .int .u8 0, .int .u8 0, .int .u8 0, .int .u8 0, .int .u8 0, .int .u8 0, .int .u8 0, .int .u8 0, .int .u8 0, .int .u8 0, .int .u8 0, .int .u8 0, .int .u8 0, .int .u8 0, .int .u8 0, .int .u8 0, .int .u8 0, .int .u8 0, .int .u8 0, .int .u8 0, .int .u8 0, .int .u8 0, .int .u8 0, .int .u8 0] 24)).alloc (.cells #[.int .u8 110, .int .u8 111, .int .u8 100, .int .u8 101] 5 (4, 5))).alloc (.cells #[.int .u8 (i : Int)] 5)) (w.heap.size + 1 + 1) 5 #[.int .u8 (i : Int)] := Row.newAt _ _ _ _ (by simp)
    rw [hr.cell]
    simp only [List.length_cons, List.length_nil] at hj
    obtain rfl : j = 0 := by omega
    rfl⟩
  have rz : Row (((w.alloc (.cells #[.int .u8 0, .int .u8 0, .int .u8 0, .int .u8 0, .int .u8 0, .int .u8 0, .int .u8 0, .int .u8 0, .int .u8 0, .int .u8 0, .int .u8 0, .int .u8 0, .int .u8 0, .int .u8 0, .int .u8 0, .int .u8 0, .int .u8 0, .int .u8 0, .int .u8 0, .int .u8 0, .int .u8 0, .int .u8 0, .int .u8 0, .int .u8 0, .int .u8 0, .int .u8 0, .int .u8 0, .int .u8 0, .int .u8 0, .int .u8 0, .int .u8 0, .int .u8 0] 24)).alloc (.cells #[.int .u8 110, .int .u8 111, .int .u8 100, .int .u8 101] 5 (4, 5))).alloc (.cells #[.int .u8 (i : Int)] 5)) w.heap.size 24 (v8 (List.replicate 32 0)) := ((Row.new w 24 _).alloc _).alloc _
  have sz : (Tryd.prog.info? 24).map (·.size) = some (v8 (shaS (nodeB i))).size := by rw [v8_size, shaS_len]; kernel_rfl
  have hold : (v8 (List.replicate 32 0)).size = (v8 (shaS (nodeB i))).size := by rw [v8_size, v8_size, shaS_len]; simp
  have hlen : (nodeB i).length = 5 := rfl
  go_enter Tryd.func6, Tryd.ntmps6
  go_wp2_with (first | (at_builtin; (refine append8f (.tmp 4) (.tmp 7) 30 5 (by rfl) (by rfl) Tryd.underlying30 info5 (w.heap.size + 1) 4 [110, 111, 100, 101] [(i : Int)] (by rfl) rfl hby1 (w.heap.size + 1 + 1) 1 1 (by rfl) rfl (by omega) hby2 (by omega) ?_; intro sp5 cap5 w5 o5 b5; simp only [List.cons_append, List.nil_append, List.length_cons, List.length_nil, Nat.zero_add, Nat.reduceAdd] at o5 ⊢; have hd5 := b3.trans (b5.mono b3.size); have hcall := ref_any (nodeB i) sp5 5 cap5 w5 hlen (by omega) (own_nil o5) o5.bytes)) | (go_at_call 10; with_reducible refine Calls.mono hcall ?_; rintro e w6 ⟨rfl, hb6⟩) | (refine store_row0 24 (.tmp 2) (.tmp 9) (by rfl) (by rfl) (by rfl) w.heap.size (v8 (shaS (nodeB i))) (by rfl) (by rfl) 24 (v8 (List.replicate 32 0)) ((rz.below b5 rz.lt).below hb6 (rz.below b5 rz.lt).lt) sz hold (v8_one _) ?_))
  exact bodyPost_ret (results_cell_row Tryd.results6 _ _ w.heap.size 24 (v8 (shaS (nodeB i))) (0, 0) _ rfl (((rz.below b5 rz.lt).below hb6 (rz.below b5 rz.lt).lt).setRow _) Tryd.underlying24 rfl sz) rfl ⟨rfl, below_setRow (hd5.trans (hb6.mono hd5.size)) (Nat.le_refl _) _⟩

end Go.Proofs.YtkmhnpkkkhglpaaDoor
