/- ParseDir, of the reference: what it answers, of any bytes. No old memory turns. -/
import Derived.Test.YtgcffdnbihfghaaPDir
import Derived.Test.YtgcffdnbihfghaaWrongD
import Derived.Test.YtgcffdnbihfghaaRParse
import Derived.Test.YtgcffdnbihfghaaRNum
import Derived.Test.YtgcffdnbihfghaaClaims9
namespace Go.Proofs.Ytgcffdnbihfghaa
open Go Go.RowKit
theorem built54 (S : ByteArray) (N : List Int) (hN : N.length = 32) : Try.prog.built 54 [(0, .string S), (1, .agg (v8 N))] = some (en ⟨S, N⟩) := by
  rw [list_map N 32 hN]
  generalize gi N = f
  kernel_rfl
theorem build54 {w : World} {ops : Array Oper} {rest : List Oper} {o : Oper} {a : Act} {Q : Exit → Act → World → Prop} (x y : Operand) (ho : o.op = .build 54 #[(0, x), (1, y)]) (hgd : o.guard = none) (S : ByteArray) (N : List Int)
    (hx : a.eval x = .string S) (hy : a.eval y = .agg (v8 N)) (hN : N.length = 32) (h : wpList Try.prog ops Q rest (a.put o.dst (.agg (en ⟨S, N⟩))) w) : wpList Try.prog ops Q (o :: rest) a w := by
  refine wpList_plain hgd fun _ hK => ?_
  have hr := run_build (P := Try.prog) w 54 #[(0, .string S), (1, .agg (v8 N))] _ (built54 S N hN)
  unfold Oper.wp execOp
  simp only [ho, List.map_toArray, List.map_cons, List.map_nil, hx, hy, Sem.run_bind, hr, Result.andThen_ok, Sem.run_pure]
  exact hK _ _ h
theorem wp_build54 {w : World} {o : Oper} {a : Act} {K : Act → World → Prop} {Q : Exit → Act → World → Prop} (x y : Operand) (ho : o.op = .build 54 #[(0, x), (1, y)]) (S : ByteArray) (N : List Int)
    (hx : a.eval x = .string S) (hy : a.eval y = .agg (v8 N)) (hN : N.length = 32) (h : K (a.put o.dst (.agg (en ⟨S, N⟩))) w) : Oper.wp Try.prog o a w K Q := by
  have hr := run_build (P := Try.prog) w 54 #[(0, .string S), (1, .agg (v8 N))] _ (built54 S N hN)
  unfold Oper.wp execOp
  simp only [ho, List.map_toArray, List.map_cons, List.map_nil, hx, hy, Sem.run_bind, hr, Result.andThen_ok, Sem.run_pure]
  exact h
theorem wp_bs54 {w : World} {o : Oper} {a : Act} {K : Act → World → Prop} {Q : Exit → Act → World → Prop} (x : Operand) (ho : o.op = .buildSlice 51 1 #[(0, x)]) (e : Ent) (hx : a.eval x = .agg (en e)) (he : e.node.length = 32)
    (h : K (a.put o.dst (.slice (some ⟨w.heap.size, 0, none⟩) 1 1)) (w.alloc (.cells (en e) 54))) : Oper.wp Try.prog o a w K Q := by
  have hr := run_bs54 e he w
  unfold Oper.wp execOp
  simp only [ho, List.map_toArray, List.map_cons, List.map_nil, hx, Sem.run_bind, hr, Result.andThen_ok]
  exact h
theorem wp_append54 {w : World} {o : Oper} {a : Act} {K : Act → World → Prop} {Q : Exit → Act → World → Prop} (s x : Operand)
    (ho : o.op = .call { callee := .builtin .append, args := #[s, x], argTypes := #[51, 51] })
    (B : Nat) (v : Value) (n : Nat) (E : List Ent) (hs : a.eval s = v) (hown : OwnE w B v n E) (g : Nat) (e : Ent) (hx : a.eval x = .slice (some ⟨g, 0, none⟩) 1 1) (he : e.node.length = 32) (hby : Row w g 54 (en e))
    (hn : n ≤ 100000) (hB : B ≤ w.heap.size)
    (h : ∀ sp' cap' w', OwnE w' B (.slice sp' (n + 1) cap') (n + 1) (E ++ [e]) → Below B w w' → K (a.put o.dst (.slice sp' (n + 1) cap')) w') : Oper.wp Try.prog o a w K Q := by
  obtain ⟨i, hi, hz, h1, h2⟩ : ∃ i, Try.prog.info? 54 = some i ∧ i.zero = some (.agg (en zE)) ∧ i.size = 33 ∧ i.bytes = 48 := by
    have hinfo : (Try.prog.info? 54).map (fun i => (i.zero, i.size, i.bytes)) = some (some (.agg (en zE)), 33, 48) := by kernel_rfl
    cases hq : Try.prog.info? 54 with
    | none => simp [hq] at hinfo
    | some i => simp [hq] at hinfo; exact ⟨i, rfl, hinfo.1, hinfo.2.1, hinfo.2.2⟩
  have hblk : ∀ k, v.ownBlock = some k → B ≤ k := fun k hk => by
    obtain ⟨_, hr⟩ := hown
    rcases hr with ⟨rfl, _⟩ | ⟨g, cap, cur, rfl, hg, _⟩
    · cases hk
    · cases hk; exact hg
  refine wp_append_own w s x 51 ho B 54 i (.agg (en zE)) 33 48 Try.underlying51 hi hz h1 h2 rfl (by decide) v n (flatE E) hs hown ⟨g, 0, none⟩ 1 1 (ec e) hx (by simp [ec_len he]) (fun j u hu => ?_) (fun u hu => ?_) (by unfold maxLen; omega) (by omega) hB (fun v' w' h2 h3 _ => ?_)
  · rw [Addr.add_mid, Nat.zero_add, hby.cell]; simpa [en] using hu
  · have := en_one e
    rw [Array.all_eq_true'] at this
    exact this u (by simpa [en] using hu)
  · have hO : OwnE w' B v' (n + 1) (E ++ [e]) := by unfold OwnE flatE; rw [List.flatMap_append]; simpa [flatE] using h2
    obtain ⟨sp', cap', rfl, _⟩ := ownE_form hO
    exact h sp' cap' w' hO ((Below.refl B w).grown h3 hB hblk)
theorem OwnE.drew1 {w : World} {B n : Nat} {v : Value} {E : List Ent} (h : OwnE w B v n E) : OwnE (w.drewN 1) B v n E := h
theorem OwnE.alloc {w : World} {B n : Nat} {v : Value} {E : List Ent} (h : OwnE w B v n E) (o : Obj) : OwnE (w.alloc o) B v n E := h.below ((Below.refl _ _).alloc (Nat.le_refl _) o) (Nat.le_refl _)
def OwnES (w : World) (B : Nat) (s : Value) (n : Nat) (E : List Ent) : Prop := ∃ sp cap, s = .slice sp n cap ∧ OwnE w B (.slice sp n cap) n E
def RowES (w : World) (B : Nat) (s : Value) (_ : Nat) (e : Ent) : Prop := ∃ b, s = .slice (some ⟨b, 0, none⟩) 1 1 ∧ Row w b 54 (en e) ∧ B ≤ b
theorem OwnES.alloc {w : World} {B n : Nat} {s : Value} {E : List Ent} (h : OwnES w B s n E) (o : Obj) : OwnES (w.alloc o) B s n E := by
  obtain ⟨sp, cap, rfl, h⟩ := h
  exact ⟨sp, cap, rfl, h.alloc o⟩
theorem OwnES.below {w w' : World} {B n : Nat} {s : Value} {E : List Ent} (h : OwnES w B s n E) (hb : Below w.heap.size w w') : OwnES w' B s n E := by
  obtain ⟨sp, cap, rfl, h⟩ := h
  exact ⟨sp, cap, rfl, h.below hb (Nat.le_refl _)⟩
theorem RowES.alloc {w : World} {B n : Nat} {s : Value} {e : Ent} (h : RowES w B s n e) (o : Obj) : RowES (w.alloc o) B s n e := by
  obtain ⟨b, rfl, h, hb⟩ := h
  exact ⟨b, rfl, h.alloc o, hb⟩
theorem RowES.below {w w' : World} {B n : Nat} {s : Value} {e : Ent} (h : RowES w B s n e) (hb : Below w.heap.size w w') : RowES w' B s n e := by
  obtain ⟨b, rfl, h, h2⟩ := h
  exact ⟨b, rfl, h.below hb h.lt, h2⟩
theorem RowES.new (w : World) (B : Nat) (hB : B ≤ w.heap.size) (n : Nat) (e : Ent) : RowES (w.alloc (.cells (en e) 54)) B (.slice (some ⟨w.heap.size, 0, none⟩) 1 1) n e := ⟨_, rfl, Row.new _ _ _, hB⟩
theorem gi_drop (l : List Int) (i : Nat) : gi (l.drop i) 0 = gi l i := by simp [gi]
set_option maxRecDepth 20000 in
set_option maxHeartbeats 4000000 in
theorem rpdir_any (bs : List Int) (p : Option Addr) (m cap : Nat) (w0 : World) (hl : bs.length = m) (hm : m ≤ 1000000) (hc : m ≤ cap) (hby : Bytes w0 p bs) (hy : By bs) :
    Calls Try.prog 25 #[.slice p m cap] w0 (ReadsD (dOut bs) (dErr bs) w0) := by
  obtain ⟨D, hD⟩ : ∃ D, dOut bs = D := ⟨_, rfl⟩
  obtain ⟨r, hr⟩ : ∃ r, dErr bs = r := ⟨_, rfl⟩
  rw [hD, hr]
  go_enter Try.func25, Try.ntmps25
  go_wp2
  go_loopw [4, 5] (fun lv iv wr => ∃ (i n : Nat) (E0 : List Ent) (sp : Option Addr) (cp : Nat), lv = .slice sp n cp ∧ iv = .int .i64 i ∧ i ≤ m ∧ OwnE wr w0.heap.size (.slice sp n cp) n E0 ∧ EntsOk E0 ∧ n * 33 ≤ i ∧ (pD (bs.drop i)).map (E0 ++ ·) = pD bs ∧ Below w0.heap.size w0 wr) (fun _ iv _ => m - (intOf iv).toNat)
  case atStart => exact ⟨0, 0, [], none, 0, rfl, rfl, by omega, ownE_none _ _, fun x hx => (by simp at hx), by omega, by simp, Below.refl _ _⟩
  case round =>
    obtain ⟨i, n, E0, sp, cp, rfl, rfl, hi, ow, hok, hsum, hpd, b1⟩ := hrel
    by_cases h0 : i < m
    · obtain ⟨b, o, rfl, _⟩ := hby (by omega)
      have hXr := hby.below b1
      obtain ⟨b', o', hbo, hcl⟩ := hXr (by omega)
      cases hbo
      have c0 : wr.cell? ⟨b, o + i, none⟩ = some (.int .u8 (gi bs i)) := hcl i (by omega)
      have q0 := gi_by hy i (by omega)
      obtain ⟨X, hX⟩ : ∃ X, bs.drop i = X := ⟨_, rfl⟩
      have hXl : X.length = m - i := by rw [← hX]; simp; omega
      have hX0 : gi X 0 = gi bs i := by rw [← hX]; exact gi_drop bs i
      obtain ⟨k, hk⟩ : ∃ k : Nat, gi bs i = k := ⟨(gi bs i).toNat, by omega⟩
      rw [hk] at c0 q0 hX0
      rw [hX] at hpd
      have hyX : By X := by rw [← hX]; exact fun x hx => hy x (List.mem_of_mem_drop hx)
      have h0i : (i : Int) < m := by omega
      clear hcl
      by_cases hs : m < i + k + 33
      · have hcut := pD_cut (X := X) (by omega) hX0 (by omega)
        rw [hcut, Option.map_none] at hpd
        have hr8 : r = 8 := by rw [← hr, dErr, ← hpd]
        have hDn : D = [] := by rw [← hD, dOut, ← hpd]
        subst hr8 hDn
        have hsi : (m : Int) < (i : Int) + 1 + (k : Int) + 32 := by omega
        clear hD hr hl hby hXr hpd hsum ow hok hcut hs hc hX hXl hX0 hyX hk
        go_wp2
        go_ret2
        exact ⟨none, 0, rfl, fun h => by simp at h, fun x hx => (by simp at hx), b1⟩
      · have hst := pD_step (X := X) (by omega) hX0 (by omega)
        have hRk := rdE_ok hyX (k := k) (by omega) (by omega)
        have hS1 : ((X.take (k + 33)).drop 1).take k = (bs.drop (i + 1)).take k := by
          rw [← hX, List.drop_take, List.drop_drop, List.take_take, show min k (k + 33 - 1) = k by omega]
        have hN1 : (X.take (k + 33)).drop (k + 1) = (bs.drop (i + 1 + k)).take 32 := by
          rw [← hX, List.drop_take, List.drop_drop, show k + 33 - (k + 1) = 32 by omega, show i + (k + 1) = i + 1 + k by omega]
        have hRd : rdE (X.take (k + 33)) k = ⟨strOfNums ((bs.drop (i + 1)).take k), (bs.drop (i + 1 + k)).take 32⟩ := by rw [rdE, hS1, hN1]
        have hpd1 : (pD (X.drop (k + 33))).map ((E0 ++ [rdE (X.take (k + 33)) k]) ++ ·) = pD bs := by
          rw [← hpd, hst]
          cases pD (X.drop (k + 33)) <;> simp
        have hdd : X.drop (k + 33) = bs.drop (i + 1 + k + 32) := by rw [← hX, List.drop_drop, show i + (k + 33) = i + 1 + k + 32 by omega]
        have hSl : ((bs.drop (i + 1)).take k).length = k := by simp; omega
        have hNl : ((bs.drop (i + 1 + k)).take 32).length = 32 := by simp; omega
        have hSb : Bytes w0 (some ⟨b, o + (i + 1), none⟩) ((bs.drop (i + 1)).take k) := (hby.drop (i + 1)).take k
        have hNb : Bytes w0 (some ⟨b, o + (i + 1 + k), none⟩) ((bs.drop (i + 1 + k)).take 32) := (hby.drop (i + 1 + k)).take 32
        rw [hRd] at hRk hpd1
        rw [hdd] at hpd1
        generalize (bs.drop (i + 1)).take k = Sb at *
        generalize (bs.drop (i + 1 + k)).take 32 = N at *
        generalize hSS : strOfNums Sb = S at *
        have hsi : (i : Int) + 1 + (k : Int) + 32 ≤ (m : Int) := by omega
        have hci : (m : Int) ≤ (cap : Int) := by omega
        have hb := b1.size
        have hn5 : n ≤ 100000 := by omega
        clear hst hpd hX hXl hX0 hyX hk hS1 hN1 hRd hdd hXr
        go_upto_region 7 with fail
        obtain ⟨B, hB⟩ : ∃ B, B = w0.heap.size := ⟨_, rfl⟩
        have hsB : ∀ {wy : World}, Below B wr wy → B ≤ wy.heap.size := fun h => by have := h.size; omega
        have hd : ∀ wy, Below B wr wy → Below w0.heap.size w0 wy := fun wy h => b1.trans (by rw [← hB]; exact h)
        have hcv : ∀ wy, Below B wr wy → (convert 27 9 (.slice (some ⟨b, o + (i + 1), none⟩) k (cap - (i + 1)))).run Try.prog wy = .ok (.string S) wy := fun wy h => by rw [← hSS]; exact run_str wy _ k _ Sb hSl (hSb.below (hd wy h))
        have hid : ∀ wy, Below B wr wy → Calls Try.prog 38 #[.slice (some ⟨b, o + (i + 1 + k), none⟩) (m - (i + 1 + k)) (cap - (i + 1 + k))] wy fun e w' => e = .returned (.agg (v8 N)) ∧ Below wy.heap.size wy w' := fun wy h => id_any N b _ _ _ wy (hNb.below (hd wy h)) hNl (by omega)
        rw [← hB] at ow
        clear hby hSb hNb hSS
        refine region_invFA  (by kernel_rfl) (by kernel_rfl) (fun a0 listed a w => ∃ s4 s24 s25 s26 s27 s28 s29 s30 s31 s32 s33 s34 s35 s36 s37 s38 s39 s40 s41 s42 s43, a = (Act.put (Act.put (Act.put (Act.put (Act.put (Act.put (Act.put (Act.put (Act.put (Act.put (Act.put (Act.put (Act.put (Act.put (Act.put (Act.put (Act.put (Act.put (Act.put (Act.put (Act.put a0 (some 4) s4) (some 24) s24) (some 25) s25) (some 26) s26) (some 27) s27) (some 28) s28) (some 29) s29) (some 30) s30) (some 31) s31) (some 32) s32) (some 33) s33) (some 34) s34) (some 35) s35) (some 36) s36) (some 37) s37) (some 38) s38) (some 39) s39) (some 40) s40) (some 41) s41) (some 42) s42) (some 43) s43) ∧ Below B wr w ∧ (listed.getD 19 false = false → OwnE w B (.slice sp n cp) n E0) ∧ (listed.getD 20 false = false → s4 = .slice sp n cp) ∧ (listed.getD 0 false = true → s24 = .slice sp n cp) ∧ (listed.getD 1 false = true → s25 = .slice (some ⟨b, o, none⟩) m cap) ∧ (listed.getD 2 false = true → s26 = .int .i64 i) ∧ (listed.getD 3 false = true → s27 = .int .i64 ((i : Int) + 1)) ∧ (listed.getD 4 false = true → s28 = .int .i64 i) ∧ (listed.getD 5 false = true → s29 = .int .i64 ((i : Int) + 1)) ∧ (listed.getD 6 false = true → s30 = .int .i64 k) ∧ (listed.getD 7 false = true → s31 = .int .i64 ((i : Int) + 1 + (k : Int))) ∧ (listed.getD 8 false = true → s32 = .slice (some ⟨b, o + (i + 1), none⟩) k (cap - (i + 1))) ∧ (listed.getD 9 false = true → s33 = .string S) ∧ (listed.getD 10 false = true → s34 = .slice (some ⟨b, o, none⟩) m cap) ∧ (listed.getD 11 false = true → s35 = .int .i64 i) ∧ (listed.getD 12 false = true → s36 = .int .i64 ((i : Int) + 1)) ∧ (listed.getD 13 false = true → s37 = .int .i64 k) ∧ (listed.getD 14 false = true → s38 = .int .i64 ((i : Int) + 1 + (k : Int))) ∧ (listed.getD 15 false = true → s39 = .slice (some ⟨b, o + (i + 1 + k), none⟩) (m - (i + 1 + k)) (cap - (i + 1 + k))) ∧ (listed.getD 16 false = true → s40 = .agg (v8 N)) ∧ (listed.getD 17 false = true → s41 = .agg (en ⟨S, N⟩)) ∧ (listed.getD 18 false = true → listed.getD 19 false = false → RowES w B s42 1 ⟨S, N⟩) ∧ (listed.getD 19 false = true → listed.getD 20 false = false → OwnES w B s43 (n + 1) (E0 ++ [⟨S, N⟩])) ∧ (listed.getD 20 false = true → OwnES w B s4 (n + 1) (E0 ++ [⟨S, N⟩]))) ?_ ?_ ?_
        all_goals simp only [Act.put, List.setIfInBounds_toArray, List.set_cons_succ, List.set_cons_zero]
        · exact ⟨_, _, _, _, _, _, _, _, _, _, _, _, _, _, _, _, _, _, _, _, _, rfl, (Below.refl B _).drew, (fun _ => ow.drew1), (fun _ => rfl), (fun h => absurd h (by rw [getD_replicate_false]; decide)), (fun h => absurd h (by rw [getD_replicate_false]; decide)), (fun h => absurd h (by rw [getD_replicate_false]; decide)), (fun h => absurd h (by rw [getD_replicate_false]; decide)), (fun h => absurd h (by rw [getD_replicate_false]; decide)), (fun h => absurd h (by rw [getD_replicate_false]; decide)), (fun h => absurd h (by rw [getD_replicate_false]; decide)), (fun h => absurd h (by rw [getD_replicate_false]; decide)), (fun h => absurd h (by rw [getD_replicate_false]; decide)), (fun h => absurd h (by rw [getD_replicate_false]; decide)), (fun h => absurd h (by rw [getD_replicate_false]; decide)), (fun h => absurd h (by rw [getD_replicate_false]; decide)), (fun h => absurd h (by rw [getD_replicate_false]; decide)), (fun h => absurd h (by rw [getD_replicate_false]; decide)), (fun h => absurd h (by rw [getD_replicate_false]; decide)), (fun h => absurd h (by rw [getD_replicate_false]; decide)), (fun h => absurd h (by rw [getD_replicate_false]; decide)), (fun h => absurd h (by rw [getD_replicate_false]; decide)), (fun h => absurd h (by rw [getD_replicate_false]; decide)), (fun h => absurd h (by rw [getD_replicate_false]; decide)), (fun h => absurd h (by rw [getD_replicate_false]; decide))⟩
        · intro listed a w i o hls hJ hin ho hi hall hcl
          obtain ⟨s4, s24, s25, s26, s27, s28, s29, s30, s31, s32, s33, s34, s35, s36, s37, s38, s39, s40, s41, s42, s43, rfl, hbW, cx, cy, c0, c1, c2, c3, c4, c5, c6, c7, c8, c9, c10, c11, c12, c13, c14, c15, c16, c17, c18, c19, c20⟩ := hJ
          replace hin : i < 21 := hin
          rcases (by omega : i = 0 ∨ i = 1 ∨ i = 2 ∨ i = 3 ∨ i = 4 ∨ i = 5 ∨ i = 6 ∨ i = 7 ∨ i = 8 ∨ i = 9 ∨ i = 10 ∨ i = 11 ∨ i = 12 ∨ i = 13 ∨ i = 14 ∨ i = 15 ∨ i = 16 ∨ i = 17 ∨ i = 18 ∨ i = 19 ∨ i = 20) with rfl | rfl | rfl | rfl | rfl | rfl | rfl | rfl | rfl | rfl | rfl | rfl | rfl | rfl | rfl | rfl | rfl | rfl | rfl | rfl | rfl
          · obtain rfl := Option.some.inj ho
            have hsz : 0 < listed.size := by rw [hls]; decide
            have hbw := hbW
            have nU : listed.getD 20 false = false := by
              cases hq : listed.getD 20 false with
              | false => rfl
              | true => exact absurd (hcl 19 _ rfl (hcl 20 _ rfl hq ⟨19, .data⟩ (by simp) rfl) ⟨0, .data⟩ (by simp) rfl) (by rw [hi]; decide)
            obtain rfl := cy nU
            refine inv_val (w' := w) (.slice sp n cp) rfl rfl rfl ?_
            exact ⟨(.slice sp n cp), (.slice sp n cp), s25, s26, s27, s28, s29, s30, s31, s32, s33, s34, s35, s36, s37, s38, s39, s40, s41, s42, s43, rfl, hbw, (fun h2 => cx (bit_ne h2 (by decide))), (fun _ => rfl), (fun _ => rfl), (fun h => c1 (bit_ne h (by decide))), (fun h => c2 (bit_ne h (by decide))), (fun h => c3 (bit_ne h (by decide))), (fun h => c4 (bit_ne h (by decide))), (fun h => c5 (bit_ne h (by decide))), (fun h => c6 (bit_ne h (by decide))), (fun h => c7 (bit_ne h (by decide))), (fun h => c8 (bit_ne h (by decide))), (fun h => c9 (bit_ne h (by decide))), (fun h => c10 (bit_ne h (by decide))), (fun h => c11 (bit_ne h (by decide))), (fun h => c12 (bit_ne h (by decide))), (fun h => c13 (bit_ne h (by decide))), (fun h => c14 (bit_ne h (by decide))), (fun h => c15 (bit_ne h (by decide))), (fun h => c16 (bit_ne h (by decide))), (fun h => c17 (bit_ne h (by decide))), (fun h h2 => c18 (bit_ne h (by decide)) (bit_ne h2 (by decide))), (fun h h2 => c19 (bit_ne h (by decide)) (bit_ne h2 (by decide))), (fun h => c20 (bit_ne h (by decide)))⟩
          · obtain rfl := Option.some.inj ho
            have hsz : 1 < listed.size := by rw [hls]; decide
            have hbw := hbW
            refine inv_val (w' := w) (.slice (some ⟨b, o, none⟩) m cap) rfl rfl rfl ?_
            exact ⟨s4, s24, (.slice (some ⟨b, o, none⟩) m cap), s26, s27, s28, s29, s30, s31, s32, s33, s34, s35, s36, s37, s38, s39, s40, s41, s42, s43, rfl, hbw, (fun h2 => cx (bit_ne h2 (by decide))), (fun h2 => cy (bit_ne h2 (by decide))), (fun h => c0 (bit_ne h (by decide))), (fun _ => rfl), (fun h => c2 (bit_ne h (by decide))), (fun h => c3 (bit_ne h (by decide))), (fun h => c4 (bit_ne h (by decide))), (fun h => c5 (bit_ne h (by decide))), (fun h => c6 (bit_ne h (by decide))), (fun h => c7 (bit_ne h (by decide))), (fun h => c8 (bit_ne h (by decide))), (fun h => c9 (bit_ne h (by decide))), (fun h => c10 (bit_ne h (by decide))), (fun h => c11 (bit_ne h (by decide))), (fun h => c12 (bit_ne h (by decide))), (fun h => c13 (bit_ne h (by decide))), (fun h => c14 (bit_ne h (by decide))), (fun h => c15 (bit_ne h (by decide))), (fun h => c16 (bit_ne h (by decide))), (fun h => c17 (bit_ne h (by decide))), (fun h h2 => c18 (bit_ne h (by decide)) (bit_ne h2 (by decide))), (fun h h2 => c19 (bit_ne h (by decide)) (bit_ne h2 (by decide))), (fun h => c20 (bit_ne h (by decide)))⟩
          · obtain rfl := Option.some.inj ho
            have hsz : 2 < listed.size := by rw [hls]; decide
            have hbw := hbW
            refine inv_val (w' := w) (.int .i64 i) rfl rfl rfl ?_
            exact ⟨s4, s24, s25, (.int .i64 i), s27, s28, s29, s30, s31, s32, s33, s34, s35, s36, s37, s38, s39, s40, s41, s42, s43, rfl, hbw, (fun h2 => cx (bit_ne h2 (by decide))), (fun h2 => cy (bit_ne h2 (by decide))), (fun h => c0 (bit_ne h (by decide))), (fun h => c1 (bit_ne h (by decide))), (fun _ => rfl), (fun h => c3 (bit_ne h (by decide))), (fun h => c4 (bit_ne h (by decide))), (fun h => c5 (bit_ne h (by decide))), (fun h => c6 (bit_ne h (by decide))), (fun h => c7 (bit_ne h (by decide))), (fun h => c8 (bit_ne h (by decide))), (fun h => c9 (bit_ne h (by decide))), (fun h => c10 (bit_ne h (by decide))), (fun h => c11 (bit_ne h (by decide))), (fun h => c12 (bit_ne h (by decide))), (fun h => c13 (bit_ne h (by decide))), (fun h => c14 (bit_ne h (by decide))), (fun h => c15 (bit_ne h (by decide))), (fun h => c16 (bit_ne h (by decide))), (fun h => c17 (bit_ne h (by decide))), (fun h h2 => c18 (bit_ne h (by decide)) (bit_ne h2 (by decide))), (fun h h2 => c19 (bit_ne h (by decide)) (bit_ne h2 (by decide))), (fun h => c20 (bit_ne h (by decide)))⟩
          · obtain rfl := Option.some.inj ho
            have hsz : 3 < listed.size := by rw [hls]; decide
            have hdep2 : listed.getD 2 false = true := hall ⟨2, .data⟩ (by simp) (by rfl)
            obtain rfl := c2 hdep2
            have hbw := hbW
            refine inv_val (w' := w) (.int .i64 ((i : Int) + 1)) rfl rfl (by have h9 : IntKind.i64.wrap ((i : Int) + 1) = (i : Int) + 1 := (by rw [IntKind.wrap_i64]; omega); go_simp) ?_
            exact ⟨s4, s24, s25, (.int .i64 i), (.int .i64 ((i : Int) + 1)), s28, s29, s30, s31, s32, s33, s34, s35, s36, s37, s38, s39, s40, s41, s42, s43, rfl, hbw, (fun h2 => cx (bit_ne h2 (by decide))), (fun h2 => cy (bit_ne h2 (by decide))), (fun h => c0 (bit_ne h (by decide))), (fun h => c1 (bit_ne h (by decide))), (fun h => c2 (bit_ne h (by decide))), (fun _ => rfl), (fun h => c4 (bit_ne h (by decide))), (fun h => c5 (bit_ne h (by decide))), (fun h => c6 (bit_ne h (by decide))), (fun h => c7 (bit_ne h (by decide))), (fun h => c8 (bit_ne h (by decide))), (fun h => c9 (bit_ne h (by decide))), (fun h => c10 (bit_ne h (by decide))), (fun h => c11 (bit_ne h (by decide))), (fun h => c12 (bit_ne h (by decide))), (fun h => c13 (bit_ne h (by decide))), (fun h => c14 (bit_ne h (by decide))), (fun h => c15 (bit_ne h (by decide))), (fun h => c16 (bit_ne h (by decide))), (fun h => c17 (bit_ne h (by decide))), (fun h h2 => c18 (bit_ne h (by decide)) (bit_ne h2 (by decide))), (fun h h2 => c19 (bit_ne h (by decide)) (bit_ne h2 (by decide))), (fun h => c20 (bit_ne h (by decide)))⟩
          · obtain rfl := Option.some.inj ho
            have hsz : 4 < listed.size := by rw [hls]; decide
            have hbw := hbW
            refine inv_val (w' := w) (.int .i64 i) rfl rfl rfl ?_
            exact ⟨s4, s24, s25, s26, s27, (.int .i64 i), s29, s30, s31, s32, s33, s34, s35, s36, s37, s38, s39, s40, s41, s42, s43, rfl, hbw, (fun h2 => cx (bit_ne h2 (by decide))), (fun h2 => cy (bit_ne h2 (by decide))), (fun h => c0 (bit_ne h (by decide))), (fun h => c1 (bit_ne h (by decide))), (fun h => c2 (bit_ne h (by decide))), (fun h => c3 (bit_ne h (by decide))), (fun _ => rfl), (fun h => c5 (bit_ne h (by decide))), (fun h => c6 (bit_ne h (by decide))), (fun h => c7 (bit_ne h (by decide))), (fun h => c8 (bit_ne h (by decide))), (fun h => c9 (bit_ne h (by decide))), (fun h => c10 (bit_ne h (by decide))), (fun h => c11 (bit_ne h (by decide))), (fun h => c12 (bit_ne h (by decide))), (fun h => c13 (bit_ne h (by decide))), (fun h => c14 (bit_ne h (by decide))), (fun h => c15 (bit_ne h (by decide))), (fun h => c16 (bit_ne h (by decide))), (fun h => c17 (bit_ne h (by decide))), (fun h h2 => c18 (bit_ne h (by decide)) (bit_ne h2 (by decide))), (fun h h2 => c19 (bit_ne h (by decide)) (bit_ne h2 (by decide))), (fun h => c20 (bit_ne h (by decide)))⟩
          · obtain rfl := Option.some.inj ho
            have hsz : 5 < listed.size := by rw [hls]; decide
            have hdep4 : listed.getD 4 false = true := hall ⟨4, .data⟩ (by simp) (by rfl)
            obtain rfl := c4 hdep4
            have hbw := hbW
            refine inv_val (w' := w) (.int .i64 ((i : Int) + 1)) rfl rfl (by have h9 : IntKind.i64.wrap ((i : Int) + 1) = (i : Int) + 1 := (by rw [IntKind.wrap_i64]; omega); go_simp) ?_
            exact ⟨s4, s24, s25, s26, s27, (.int .i64 i), (.int .i64 ((i : Int) + 1)), s30, s31, s32, s33, s34, s35, s36, s37, s38, s39, s40, s41, s42, s43, rfl, hbw, (fun h2 => cx (bit_ne h2 (by decide))), (fun h2 => cy (bit_ne h2 (by decide))), (fun h => c0 (bit_ne h (by decide))), (fun h => c1 (bit_ne h (by decide))), (fun h => c2 (bit_ne h (by decide))), (fun h => c3 (bit_ne h (by decide))), (fun h => c4 (bit_ne h (by decide))), (fun _ => rfl), (fun h => c6 (bit_ne h (by decide))), (fun h => c7 (bit_ne h (by decide))), (fun h => c8 (bit_ne h (by decide))), (fun h => c9 (bit_ne h (by decide))), (fun h => c10 (bit_ne h (by decide))), (fun h => c11 (bit_ne h (by decide))), (fun h => c12 (bit_ne h (by decide))), (fun h => c13 (bit_ne h (by decide))), (fun h => c14 (bit_ne h (by decide))), (fun h => c15 (bit_ne h (by decide))), (fun h => c16 (bit_ne h (by decide))), (fun h => c17 (bit_ne h (by decide))), (fun h h2 => c18 (bit_ne h (by decide)) (bit_ne h2 (by decide))), (fun h h2 => c19 (bit_ne h (by decide)) (bit_ne h2 (by decide))), (fun h => c20 (bit_ne h (by decide)))⟩
          · obtain rfl := Option.some.inj ho
            have hsz : 6 < listed.size := by rw [hls]; decide
            have hbw := hbW
            refine inv_val (w' := w) (.int .i64 k) rfl rfl rfl ?_
            exact ⟨s4, s24, s25, s26, s27, s28, s29, (.int .i64 k), s31, s32, s33, s34, s35, s36, s37, s38, s39, s40, s41, s42, s43, rfl, hbw, (fun h2 => cx (bit_ne h2 (by decide))), (fun h2 => cy (bit_ne h2 (by decide))), (fun h => c0 (bit_ne h (by decide))), (fun h => c1 (bit_ne h (by decide))), (fun h => c2 (bit_ne h (by decide))), (fun h => c3 (bit_ne h (by decide))), (fun h => c4 (bit_ne h (by decide))), (fun h => c5 (bit_ne h (by decide))), (fun _ => rfl), (fun h => c7 (bit_ne h (by decide))), (fun h => c8 (bit_ne h (by decide))), (fun h => c9 (bit_ne h (by decide))), (fun h => c10 (bit_ne h (by decide))), (fun h => c11 (bit_ne h (by decide))), (fun h => c12 (bit_ne h (by decide))), (fun h => c13 (bit_ne h (by decide))), (fun h => c14 (bit_ne h (by decide))), (fun h => c15 (bit_ne h (by decide))), (fun h => c16 (bit_ne h (by decide))), (fun h => c17 (bit_ne h (by decide))), (fun h h2 => c18 (bit_ne h (by decide)) (bit_ne h2 (by decide))), (fun h h2 => c19 (bit_ne h (by decide)) (bit_ne h2 (by decide))), (fun h => c20 (bit_ne h (by decide)))⟩
          · obtain rfl := Option.some.inj ho
            have hsz : 7 < listed.size := by rw [hls]; decide
            have hdep5 : listed.getD 5 false = true := hall ⟨5, .data⟩ (by simp) (by rfl)
            obtain rfl := c5 hdep5
            have hdep6 : listed.getD 6 false = true := hall ⟨6, .data⟩ (by simp) (by rfl)
            obtain rfl := c6 hdep6
            have hbw := hbW
            refine inv_val (w' := w) (.int .i64 ((i : Int) + 1 + (k : Int))) rfl rfl (by have h9 : IntKind.i64.wrap ((i : Int) + 1 + (k : Int)) = (i : Int) + 1 + (k : Int) := (by rw [IntKind.wrap_i64]; omega); go_simp) ?_
            exact ⟨s4, s24, s25, s26, s27, s28, (.int .i64 ((i : Int) + 1)), (.int .i64 k), (.int .i64 ((i : Int) + 1 + (k : Int))), s32, s33, s34, s35, s36, s37, s38, s39, s40, s41, s42, s43, rfl, hbw, (fun h2 => cx (bit_ne h2 (by decide))), (fun h2 => cy (bit_ne h2 (by decide))), (fun h => c0 (bit_ne h (by decide))), (fun h => c1 (bit_ne h (by decide))), (fun h => c2 (bit_ne h (by decide))), (fun h => c3 (bit_ne h (by decide))), (fun h => c4 (bit_ne h (by decide))), (fun h => c5 (bit_ne h (by decide))), (fun h => c6 (bit_ne h (by decide))), (fun _ => rfl), (fun h => c8 (bit_ne h (by decide))), (fun h => c9 (bit_ne h (by decide))), (fun h => c10 (bit_ne h (by decide))), (fun h => c11 (bit_ne h (by decide))), (fun h => c12 (bit_ne h (by decide))), (fun h => c13 (bit_ne h (by decide))), (fun h => c14 (bit_ne h (by decide))), (fun h => c15 (bit_ne h (by decide))), (fun h => c16 (bit_ne h (by decide))), (fun h => c17 (bit_ne h (by decide))), (fun h h2 => c18 (bit_ne h (by decide)) (bit_ne h2 (by decide))), (fun h h2 => c19 (bit_ne h (by decide)) (bit_ne h2 (by decide))), (fun h => c20 (bit_ne h (by decide)))⟩
          · obtain rfl := Option.some.inj ho
            have hsz : 8 < listed.size := by rw [hls]; decide
            have hdep1 : listed.getD 1 false = true := hall ⟨1, .data⟩ (by simp) (by rfl)
            obtain rfl := c1 hdep1
            have hdep3 : listed.getD 3 false = true := hall ⟨3, .data⟩ (by simp) (by rfl)
            obtain rfl := c3 hdep3
            have hdep7 : listed.getD 7 false = true := hall ⟨7, .data⟩ (by simp) (by rfl)
            obtain rfl := c7 hdep7
            have hbw := hbW
            refine inv_val (w' := w) (.slice (some ⟨b, o + (i + 1), none⟩) k (cap - (i + 1))) rfl rfl (by go_simp; rw [if_pos (by omega), if_pos (by rw [Int.max_eq_left (by omega)]; omega), if_neg (by omega), show ((i : Int) + 1 + (k : Int)).toNat - (i + 1) = k by omega]) ?_
            exact ⟨s4, s24, (.slice (some ⟨b, o, none⟩) m cap), s26, (.int .i64 ((i : Int) + 1)), s28, s29, s30, (.int .i64 ((i : Int) + 1 + (k : Int))), (.slice (some ⟨b, o + (i + 1), none⟩) k (cap - (i + 1))), s33, s34, s35, s36, s37, s38, s39, s40, s41, s42, s43, rfl, hbw, (fun h2 => cx (bit_ne h2 (by decide))), (fun h2 => cy (bit_ne h2 (by decide))), (fun h => c0 (bit_ne h (by decide))), (fun h => c1 (bit_ne h (by decide))), (fun h => c2 (bit_ne h (by decide))), (fun h => c3 (bit_ne h (by decide))), (fun h => c4 (bit_ne h (by decide))), (fun h => c5 (bit_ne h (by decide))), (fun h => c6 (bit_ne h (by decide))), (fun h => c7 (bit_ne h (by decide))), (fun _ => rfl), (fun h => c9 (bit_ne h (by decide))), (fun h => c10 (bit_ne h (by decide))), (fun h => c11 (bit_ne h (by decide))), (fun h => c12 (bit_ne h (by decide))), (fun h => c13 (bit_ne h (by decide))), (fun h => c14 (bit_ne h (by decide))), (fun h => c15 (bit_ne h (by decide))), (fun h => c16 (bit_ne h (by decide))), (fun h => c17 (bit_ne h (by decide))), (fun h h2 => c18 (bit_ne h (by decide)) (bit_ne h2 (by decide))), (fun h h2 => c19 (bit_ne h (by decide)) (bit_ne h2 (by decide))), (fun h => c20 (bit_ne h (by decide)))⟩
          · obtain rfl := Option.some.inj ho
            have hsz : 9 < listed.size := by rw [hls]; decide
            have hdep8 : listed.getD 8 false = true := hall ⟨8, .data⟩ (by simp) (by rfl)
            obtain rfl := c8 hdep8
            have hbw := hbW
            refine inv_val (w' := w) (.string S) rfl rfl (by have hq := hcv w hbW; go_simp) ?_
            exact ⟨s4, s24, s25, s26, s27, s28, s29, s30, s31, (.slice (some ⟨b, o + (i + 1), none⟩) k (cap - (i + 1))), (.string S), s34, s35, s36, s37, s38, s39, s40, s41, s42, s43, rfl, hbw, (fun h2 => cx (bit_ne h2 (by decide))), (fun h2 => cy (bit_ne h2 (by decide))), (fun h => c0 (bit_ne h (by decide))), (fun h => c1 (bit_ne h (by decide))), (fun h => c2 (bit_ne h (by decide))), (fun h => c3 (bit_ne h (by decide))), (fun h => c4 (bit_ne h (by decide))), (fun h => c5 (bit_ne h (by decide))), (fun h => c6 (bit_ne h (by decide))), (fun h => c7 (bit_ne h (by decide))), (fun h => c8 (bit_ne h (by decide))), (fun _ => rfl), (fun h => c10 (bit_ne h (by decide))), (fun h => c11 (bit_ne h (by decide))), (fun h => c12 (bit_ne h (by decide))), (fun h => c13 (bit_ne h (by decide))), (fun h => c14 (bit_ne h (by decide))), (fun h => c15 (bit_ne h (by decide))), (fun h => c16 (bit_ne h (by decide))), (fun h => c17 (bit_ne h (by decide))), (fun h h2 => c18 (bit_ne h (by decide)) (bit_ne h2 (by decide))), (fun h h2 => c19 (bit_ne h (by decide)) (bit_ne h2 (by decide))), (fun h => c20 (bit_ne h (by decide)))⟩
          · obtain rfl := Option.some.inj ho
            have hsz : 10 < listed.size := by rw [hls]; decide
            have hbw := hbW
            refine inv_val (w' := w) (.slice (some ⟨b, o, none⟩) m cap) rfl rfl rfl ?_
            exact ⟨s4, s24, s25, s26, s27, s28, s29, s30, s31, s32, s33, (.slice (some ⟨b, o, none⟩) m cap), s35, s36, s37, s38, s39, s40, s41, s42, s43, rfl, hbw, (fun h2 => cx (bit_ne h2 (by decide))), (fun h2 => cy (bit_ne h2 (by decide))), (fun h => c0 (bit_ne h (by decide))), (fun h => c1 (bit_ne h (by decide))), (fun h => c2 (bit_ne h (by decide))), (fun h => c3 (bit_ne h (by decide))), (fun h => c4 (bit_ne h (by decide))), (fun h => c5 (bit_ne h (by decide))), (fun h => c6 (bit_ne h (by decide))), (fun h => c7 (bit_ne h (by decide))), (fun h => c8 (bit_ne h (by decide))), (fun h => c9 (bit_ne h (by decide))), (fun _ => rfl), (fun h => c11 (bit_ne h (by decide))), (fun h => c12 (bit_ne h (by decide))), (fun h => c13 (bit_ne h (by decide))), (fun h => c14 (bit_ne h (by decide))), (fun h => c15 (bit_ne h (by decide))), (fun h => c16 (bit_ne h (by decide))), (fun h => c17 (bit_ne h (by decide))), (fun h h2 => c18 (bit_ne h (by decide)) (bit_ne h2 (by decide))), (fun h h2 => c19 (bit_ne h (by decide)) (bit_ne h2 (by decide))), (fun h => c20 (bit_ne h (by decide)))⟩
          · obtain rfl := Option.some.inj ho
            have hsz : 11 < listed.size := by rw [hls]; decide
            have hbw := hbW
            refine inv_val (w' := w) (.int .i64 i) rfl rfl rfl ?_
            exact ⟨s4, s24, s25, s26, s27, s28, s29, s30, s31, s32, s33, s34, (.int .i64 i), s36, s37, s38, s39, s40, s41, s42, s43, rfl, hbw, (fun h2 => cx (bit_ne h2 (by decide))), (fun h2 => cy (bit_ne h2 (by decide))), (fun h => c0 (bit_ne h (by decide))), (fun h => c1 (bit_ne h (by decide))), (fun h => c2 (bit_ne h (by decide))), (fun h => c3 (bit_ne h (by decide))), (fun h => c4 (bit_ne h (by decide))), (fun h => c5 (bit_ne h (by decide))), (fun h => c6 (bit_ne h (by decide))), (fun h => c7 (bit_ne h (by decide))), (fun h => c8 (bit_ne h (by decide))), (fun h => c9 (bit_ne h (by decide))), (fun h => c10 (bit_ne h (by decide))), (fun _ => rfl), (fun h => c12 (bit_ne h (by decide))), (fun h => c13 (bit_ne h (by decide))), (fun h => c14 (bit_ne h (by decide))), (fun h => c15 (bit_ne h (by decide))), (fun h => c16 (bit_ne h (by decide))), (fun h => c17 (bit_ne h (by decide))), (fun h h2 => c18 (bit_ne h (by decide)) (bit_ne h2 (by decide))), (fun h h2 => c19 (bit_ne h (by decide)) (bit_ne h2 (by decide))), (fun h => c20 (bit_ne h (by decide)))⟩
          · obtain rfl := Option.some.inj ho
            have hsz : 12 < listed.size := by rw [hls]; decide
            have hdep11 : listed.getD 11 false = true := hall ⟨11, .data⟩ (by simp) (by rfl)
            obtain rfl := c11 hdep11
            have hbw := hbW
            refine inv_val (w' := w) (.int .i64 ((i : Int) + 1)) rfl rfl (by have h9 : IntKind.i64.wrap ((i : Int) + 1) = (i : Int) + 1 := (by rw [IntKind.wrap_i64]; omega); go_simp) ?_
            exact ⟨s4, s24, s25, s26, s27, s28, s29, s30, s31, s32, s33, s34, (.int .i64 i), (.int .i64 ((i : Int) + 1)), s37, s38, s39, s40, s41, s42, s43, rfl, hbw, (fun h2 => cx (bit_ne h2 (by decide))), (fun h2 => cy (bit_ne h2 (by decide))), (fun h => c0 (bit_ne h (by decide))), (fun h => c1 (bit_ne h (by decide))), (fun h => c2 (bit_ne h (by decide))), (fun h => c3 (bit_ne h (by decide))), (fun h => c4 (bit_ne h (by decide))), (fun h => c5 (bit_ne h (by decide))), (fun h => c6 (bit_ne h (by decide))), (fun h => c7 (bit_ne h (by decide))), (fun h => c8 (bit_ne h (by decide))), (fun h => c9 (bit_ne h (by decide))), (fun h => c10 (bit_ne h (by decide))), (fun h => c11 (bit_ne h (by decide))), (fun _ => rfl), (fun h => c13 (bit_ne h (by decide))), (fun h => c14 (bit_ne h (by decide))), (fun h => c15 (bit_ne h (by decide))), (fun h => c16 (bit_ne h (by decide))), (fun h => c17 (bit_ne h (by decide))), (fun h h2 => c18 (bit_ne h (by decide)) (bit_ne h2 (by decide))), (fun h h2 => c19 (bit_ne h (by decide)) (bit_ne h2 (by decide))), (fun h => c20 (bit_ne h (by decide)))⟩
          · obtain rfl := Option.some.inj ho
            have hsz : 13 < listed.size := by rw [hls]; decide
            have hbw := hbW
            refine inv_val (w' := w) (.int .i64 k) rfl rfl rfl ?_
            exact ⟨s4, s24, s25, s26, s27, s28, s29, s30, s31, s32, s33, s34, s35, s36, (.int .i64 k), s38, s39, s40, s41, s42, s43, rfl, hbw, (fun h2 => cx (bit_ne h2 (by decide))), (fun h2 => cy (bit_ne h2 (by decide))), (fun h => c0 (bit_ne h (by decide))), (fun h => c1 (bit_ne h (by decide))), (fun h => c2 (bit_ne h (by decide))), (fun h => c3 (bit_ne h (by decide))), (fun h => c4 (bit_ne h (by decide))), (fun h => c5 (bit_ne h (by decide))), (fun h => c6 (bit_ne h (by decide))), (fun h => c7 (bit_ne h (by decide))), (fun h => c8 (bit_ne h (by decide))), (fun h => c9 (bit_ne h (by decide))), (fun h => c10 (bit_ne h (by decide))), (fun h => c11 (bit_ne h (by decide))), (fun h => c12 (bit_ne h (by decide))), (fun _ => rfl), (fun h => c14 (bit_ne h (by decide))), (fun h => c15 (bit_ne h (by decide))), (fun h => c16 (bit_ne h (by decide))), (fun h => c17 (bit_ne h (by decide))), (fun h h2 => c18 (bit_ne h (by decide)) (bit_ne h2 (by decide))), (fun h h2 => c19 (bit_ne h (by decide)) (bit_ne h2 (by decide))), (fun h => c20 (bit_ne h (by decide)))⟩
          · obtain rfl := Option.some.inj ho
            have hsz : 14 < listed.size := by rw [hls]; decide
            have hdep12 : listed.getD 12 false = true := hall ⟨12, .data⟩ (by simp) (by rfl)
            obtain rfl := c12 hdep12
            have hdep13 : listed.getD 13 false = true := hall ⟨13, .data⟩ (by simp) (by rfl)
            obtain rfl := c13 hdep13
            have hbw := hbW
            refine inv_val (w' := w) (.int .i64 ((i : Int) + 1 + (k : Int))) rfl rfl (by have h9 : IntKind.i64.wrap ((i : Int) + 1 + (k : Int)) = (i : Int) + 1 + (k : Int) := (by rw [IntKind.wrap_i64]; omega); go_simp) ?_
            exact ⟨s4, s24, s25, s26, s27, s28, s29, s30, s31, s32, s33, s34, s35, (.int .i64 ((i : Int) + 1)), (.int .i64 k), (.int .i64 ((i : Int) + 1 + (k : Int))), s39, s40, s41, s42, s43, rfl, hbw, (fun h2 => cx (bit_ne h2 (by decide))), (fun h2 => cy (bit_ne h2 (by decide))), (fun h => c0 (bit_ne h (by decide))), (fun h => c1 (bit_ne h (by decide))), (fun h => c2 (bit_ne h (by decide))), (fun h => c3 (bit_ne h (by decide))), (fun h => c4 (bit_ne h (by decide))), (fun h => c5 (bit_ne h (by decide))), (fun h => c6 (bit_ne h (by decide))), (fun h => c7 (bit_ne h (by decide))), (fun h => c8 (bit_ne h (by decide))), (fun h => c9 (bit_ne h (by decide))), (fun h => c10 (bit_ne h (by decide))), (fun h => c11 (bit_ne h (by decide))), (fun h => c12 (bit_ne h (by decide))), (fun h => c13 (bit_ne h (by decide))), (fun _ => rfl), (fun h => c15 (bit_ne h (by decide))), (fun h => c16 (bit_ne h (by decide))), (fun h => c17 (bit_ne h (by decide))), (fun h h2 => c18 (bit_ne h (by decide)) (bit_ne h2 (by decide))), (fun h h2 => c19 (bit_ne h (by decide)) (bit_ne h2 (by decide))), (fun h => c20 (bit_ne h (by decide)))⟩
          · obtain rfl := Option.some.inj ho
            have hsz : 15 < listed.size := by rw [hls]; decide
            have hdep10 : listed.getD 10 false = true := hall ⟨10, .data⟩ (by simp) (by rfl)
            obtain rfl := c10 hdep10
            have hdep14 : listed.getD 14 false = true := hall ⟨14, .data⟩ (by simp) (by rfl)
            obtain rfl := c14 hdep14
            have hbw := hbW
            refine inv_val (w' := w) (.slice (some ⟨b, o + (i + 1 + k), none⟩) (m - (i + 1 + k)) (cap - (i + 1 + k))) rfl rfl (by go_simp; rw [if_pos (by omega), show ((i : Int) + 1 + (k : Int)).toNat = i + 1 + k by omega, if_neg (by omega)]) ?_
            exact ⟨s4, s24, s25, s26, s27, s28, s29, s30, s31, s32, s33, (.slice (some ⟨b, o, none⟩) m cap), s35, s36, s37, (.int .i64 ((i : Int) + 1 + (k : Int))), (.slice (some ⟨b, o + (i + 1 + k), none⟩) (m - (i + 1 + k)) (cap - (i + 1 + k))), s40, s41, s42, s43, rfl, hbw, (fun h2 => cx (bit_ne h2 (by decide))), (fun h2 => cy (bit_ne h2 (by decide))), (fun h => c0 (bit_ne h (by decide))), (fun h => c1 (bit_ne h (by decide))), (fun h => c2 (bit_ne h (by decide))), (fun h => c3 (bit_ne h (by decide))), (fun h => c4 (bit_ne h (by decide))), (fun h => c5 (bit_ne h (by decide))), (fun h => c6 (bit_ne h (by decide))), (fun h => c7 (bit_ne h (by decide))), (fun h => c8 (bit_ne h (by decide))), (fun h => c9 (bit_ne h (by decide))), (fun h => c10 (bit_ne h (by decide))), (fun h => c11 (bit_ne h (by decide))), (fun h => c12 (bit_ne h (by decide))), (fun h => c13 (bit_ne h (by decide))), (fun h => c14 (bit_ne h (by decide))), (fun _ => rfl), (fun h => c16 (bit_ne h (by decide))), (fun h => c17 (bit_ne h (by decide))), (fun h h2 => c18 (bit_ne h (by decide)) (bit_ne h2 (by decide))), (fun h h2 => c19 (bit_ne h (by decide)) (bit_ne h2 (by decide))), (fun h => c20 (bit_ne h (by decide)))⟩
          · obtain rfl := Option.some.inj ho
            have hsz : 16 < listed.size := by rw [hls]; decide
            have hdep15 : listed.getD 15 false = true := hall ⟨15, .data⟩ (by simp) (by rfl)
            obtain rfl := c15 hdep15
            refine inv_call 38 #[.slice (some ⟨b, o + (i + 1 + k), none⟩) (m - (i + 1 + k)) (cap - (i + 1 + k))] _ rfl rfl (by kernel_rfl) (hid w hbW) ?_
            rintro e w' ⟨rfl, hb⟩
            have hbw : Below B wr w' := hbW.trans (hb.mono (hsB hbW))
            refine ⟨_, rfl, ?_⟩
            exact ⟨s4, s24, s25, s26, s27, s28, s29, s30, s31, s32, s33, s34, s35, s36, s37, s38, (.slice (some ⟨b, o + (i + 1 + k), none⟩) (m - (i + 1 + k)) (cap - (i + 1 + k))), (.agg (v8 N)), s41, s42, s43, rfl, hbw, (fun h2 => (cx (bit_ne h2 (by decide))).below hb (Nat.le_refl _)), (fun h2 => cy (bit_ne h2 (by decide))), (fun h => c0 (bit_ne h (by decide))), (fun h => c1 (bit_ne h (by decide))), (fun h => c2 (bit_ne h (by decide))), (fun h => c3 (bit_ne h (by decide))), (fun h => c4 (bit_ne h (by decide))), (fun h => c5 (bit_ne h (by decide))), (fun h => c6 (bit_ne h (by decide))), (fun h => c7 (bit_ne h (by decide))), (fun h => c8 (bit_ne h (by decide))), (fun h => c9 (bit_ne h (by decide))), (fun h => c10 (bit_ne h (by decide))), (fun h => c11 (bit_ne h (by decide))), (fun h => c12 (bit_ne h (by decide))), (fun h => c13 (bit_ne h (by decide))), (fun h => c14 (bit_ne h (by decide))), (fun h => c15 (bit_ne h (by decide))), (fun _ => rfl), (fun h => c17 (bit_ne h (by decide))), (fun h h2 => (c18 (bit_ne h (by decide)) (bit_ne h2 (by decide))).below hb), (fun h h2 => (c19 (bit_ne h (by decide)) (bit_ne h2 (by decide))).below hb), (fun h => (c20 (bit_ne h (by decide))).below hb)⟩
          · obtain rfl := Option.some.inj ho
            have hsz : 17 < listed.size := by rw [hls]; decide
            have hdep9 : listed.getD 9 false = true := hall ⟨9, .data⟩ (by simp) (by rfl)
            obtain rfl := c9 hdep9
            have hdep16 : listed.getD 16 false = true := hall ⟨16, .data⟩ (by simp) (by rfl)
            obtain rfl := c16 hdep16
            have hbw := hbW
            refine inv_op rfl rfl (wp_build54 (.tmp 33) (.tmp 40) rfl S N rfl rfl hNl ?_)
            exact ⟨s4, s24, s25, s26, s27, s28, s29, s30, s31, s32, (.string S), s34, s35, s36, s37, s38, s39, (.agg (v8 N)), (.agg (en ⟨S, N⟩)), s42, s43, rfl, hbw, (fun h2 => cx (bit_ne h2 (by decide))), (fun h2 => cy (bit_ne h2 (by decide))), (fun h => c0 (bit_ne h (by decide))), (fun h => c1 (bit_ne h (by decide))), (fun h => c2 (bit_ne h (by decide))), (fun h => c3 (bit_ne h (by decide))), (fun h => c4 (bit_ne h (by decide))), (fun h => c5 (bit_ne h (by decide))), (fun h => c6 (bit_ne h (by decide))), (fun h => c7 (bit_ne h (by decide))), (fun h => c8 (bit_ne h (by decide))), (fun h => c9 (bit_ne h (by decide))), (fun h => c10 (bit_ne h (by decide))), (fun h => c11 (bit_ne h (by decide))), (fun h => c12 (bit_ne h (by decide))), (fun h => c13 (bit_ne h (by decide))), (fun h => c14 (bit_ne h (by decide))), (fun h => c15 (bit_ne h (by decide))), (fun h => c16 (bit_ne h (by decide))), (fun _ => rfl), (fun h h2 => c18 (bit_ne h (by decide)) (bit_ne h2 (by decide))), (fun h h2 => c19 (bit_ne h (by decide)) (bit_ne h2 (by decide))), (fun h => c20 (bit_ne h (by decide)))⟩
          · obtain rfl := Option.some.inj ho
            have hsz : 18 < listed.size := by rw [hls]; decide
            have hdep17 : listed.getD 17 false = true := hall ⟨17, .data⟩ (by simp) (by rfl)
            obtain rfl := c17 hdep17
            have hbw : Below B wr (w.alloc (.cells (en ⟨S, N⟩) 54)) := hbW.alloc (hsB hbW) _
            refine inv_op rfl rfl (wp_bs54 (.tmp 41) rfl ⟨S, N⟩ rfl hNl ?_)
            exact ⟨s4, s24, s25, s26, s27, s28, s29, s30, s31, s32, s33, s34, s35, s36, s37, s38, s39, s40, (.agg (en ⟨S, N⟩)), (.slice (some ⟨w.heap.size, 0, none⟩) 1 1), s43, rfl, hbw, (fun h2 => (cx (bit_ne h2 (by decide))).alloc _), (fun h2 => cy (bit_ne h2 (by decide))), (fun h => c0 (bit_ne h (by decide))), (fun h => c1 (bit_ne h (by decide))), (fun h => c2 (bit_ne h (by decide))), (fun h => c3 (bit_ne h (by decide))), (fun h => c4 (bit_ne h (by decide))), (fun h => c5 (bit_ne h (by decide))), (fun h => c6 (bit_ne h (by decide))), (fun h => c7 (bit_ne h (by decide))), (fun h => c8 (bit_ne h (by decide))), (fun h => c9 (bit_ne h (by decide))), (fun h => c10 (bit_ne h (by decide))), (fun h => c11 (bit_ne h (by decide))), (fun h => c12 (bit_ne h (by decide))), (fun h => c13 (bit_ne h (by decide))), (fun h => c14 (bit_ne h (by decide))), (fun h => c15 (bit_ne h (by decide))), (fun h => c16 (bit_ne h (by decide))), (fun h => c17 (bit_ne h (by decide))), (fun _ _ => RowES.new w B (hsB hbW) 1 ⟨S, N⟩), (fun h h2 => (c19 (bit_ne h (by decide)) (bit_ne h2 (by decide))).alloc _), (fun h => (c20 (bit_ne h (by decide))).alloc _)⟩
          · obtain rfl := Option.some.inj ho
            have hsz : 19 < listed.size := by rw [hls]; decide
            have hdep0 : listed.getD 0 false = true := hall ⟨0, .data⟩ (by simp) (by rfl)
            obtain rfl := c0 hdep0
            have hdep18 : listed.getD 18 false = true := hall ⟨18, .data⟩ (by simp) (by rfl)
            obtain ⟨b18, rfl, r18, hb18⟩ := c18 hdep18 hi
            refine inv_op rfl rfl (wp_append54 (.tmp 24) (.tmp 42) rfl B (.slice sp n cp) n E0 rfl (cx hi) b18 ⟨S, N⟩ rfl hNl r18 hn5 (hsB hbW) ?_)
            intro spQ capQ w' owQ hb'
            have hbw : Below B wr w' := hbW.trans hb'
            exact ⟨s4, (.slice sp n cp), s25, s26, s27, s28, s29, s30, s31, s32, s33, s34, s35, s36, s37, s38, s39, s40, s41, (.slice (some ⟨b18, 0, none⟩) 1 1), (.slice spQ (n + 1) capQ), rfl, hbw, (fun h2 => absurd (bit_on hsz) (by rw [h2]; decide)), (fun h2 => cy (bit_ne h2 (by decide))), (fun h => c0 (bit_ne h (by decide))), (fun h => c1 (bit_ne h (by decide))), (fun h => c2 (bit_ne h (by decide))), (fun h => c3 (bit_ne h (by decide))), (fun h => c4 (bit_ne h (by decide))), (fun h => c5 (bit_ne h (by decide))), (fun h => c6 (bit_ne h (by decide))), (fun h => c7 (bit_ne h (by decide))), (fun h => c8 (bit_ne h (by decide))), (fun h => c9 (bit_ne h (by decide))), (fun h => c10 (bit_ne h (by decide))), (fun h => c11 (bit_ne h (by decide))), (fun h => c12 (bit_ne h (by decide))), (fun h => c13 (bit_ne h (by decide))), (fun h => c14 (bit_ne h (by decide))), (fun h => c15 (bit_ne h (by decide))), (fun h => c16 (bit_ne h (by decide))), (fun h => c17 (bit_ne h (by decide))), (fun _ h2 => absurd (bit_on hsz) (by rw [h2]; decide)), (fun _ _ => ⟨spQ, capQ, rfl, owQ⟩), (fun h => absurd (hcl 20 _ rfl (bit_ne h (by decide)) ⟨19, .data⟩ (by simp) rfl) (by rw [hi]; decide))⟩
          · obtain rfl := Option.some.inj ho
            have hsz : 20 < listed.size := by rw [hls]; decide
            have hdep19 : listed.getD 19 false = true := hall ⟨19, .data⟩ (by simp) (by rfl)
            obtain ⟨sp19, cap19, rfl, o19⟩ := c19 hdep19 hi
            have hbw := hbW
            refine inv_val (w' := w) (.slice sp19 (n + 1) cap19) rfl rfl rfl ?_
            exact ⟨(.slice sp19 (n + 1) cap19), s24, s25, s26, s27, s28, s29, s30, s31, s32, s33, s34, s35, s36, s37, s38, s39, s40, s41, s42, (.slice sp19 (n + 1) cap19), rfl, hbw, (fun h2 => absurd hdep19 (by rw [bit_ne h2 (by decide)]; decide)), (fun h2 => absurd (bit_on hsz) (by rw [h2]; decide)), (fun h => c0 (bit_ne h (by decide))), (fun h => c1 (bit_ne h (by decide))), (fun h => c2 (bit_ne h (by decide))), (fun h => c3 (bit_ne h (by decide))), (fun h => c4 (bit_ne h (by decide))), (fun h => c5 (bit_ne h (by decide))), (fun h => c6 (bit_ne h (by decide))), (fun h => c7 (bit_ne h (by decide))), (fun h => c8 (bit_ne h (by decide))), (fun h => c9 (bit_ne h (by decide))), (fun h => c10 (bit_ne h (by decide))), (fun h => c11 (bit_ne h (by decide))), (fun h => c12 (bit_ne h (by decide))), (fun h => c13 (bit_ne h (by decide))), (fun h => c14 (bit_ne h (by decide))), (fun h => c15 (bit_ne h (by decide))), (fun h => c16 (bit_ne h (by decide))), (fun h => c17 (bit_ne h (by decide))), (fun h h2 => c18 (bit_ne h (by decide)) (bit_ne h2 (by decide))), (fun _ h2 => absurd (bit_on hsz) (by rw [h2]; decide)), (fun _ => ⟨sp19, cap19, rfl, o19⟩)⟩
        · intro listed a w hall hJ
          obtain ⟨s4, s24, s25, s26, s27, s28, s29, s30, s31, s32, s33, s34, s35, s36, s37, s38, s39, s40, s41, s42, s43, rfl, hbW, cx, cy, c0, c1, c2, c3, c4, c5, c6, c7, c8, c9, c10, c11, c12, c13, c14, c15, c16, c17, c18, c19, c20⟩ := hJ
          obtain rfl := c0 (hall 0 (by decide))
          obtain rfl := c1 (hall 1 (by decide))
          obtain rfl := c2 (hall 2 (by decide))
          obtain rfl := c3 (hall 3 (by decide))
          obtain rfl := c4 (hall 4 (by decide))
          obtain rfl := c5 (hall 5 (by decide))
          obtain rfl := c6 (hall 6 (by decide))
          obtain rfl := c7 (hall 7 (by decide))
          obtain rfl := c8 (hall 8 (by decide))
          obtain rfl := c9 (hall 9 (by decide))
          obtain rfl := c10 (hall 10 (by decide))
          obtain rfl := c11 (hall 11 (by decide))
          obtain rfl := c12 (hall 12 (by decide))
          obtain rfl := c13 (hall 13 (by decide))
          obtain rfl := c14 (hall 14 (by decide))
          obtain rfl := c15 (hall 15 (by decide))
          obtain rfl := c16 (hall 16 (by decide))
          obtain rfl := c17 (hall 17 (by decide))
          obtain ⟨sp20, cap20, rfl, o20⟩ := c20 (hall 20 (by decide))
          have bb := b1.trans (by rw [← hB]; exact hbW)
          have hE1 : EntsOk (E0 ++ [⟨S, N⟩]) := fun x hx => by
            rcases List.mem_append.1 hx with h | h
            · exact hok x h
            · obtain rfl : x = ⟨S, N⟩ := by simpa using h
              exact hRk
          rw [hB] at o20
          clear hbW hcv hid hsB hall hok hRk ow
          generalize w = w7 at *
          go_wp2
          go_roundw
          case rel => exact ⟨i + 1 + k + 32, n + 1, E0 ++ [⟨S, N⟩], sp20, cap20, rfl, by go_num, by omega, o20, hE1, by omega, hpd1, bb⟩
          case measure => simp [intOf]; omega
    · obtain rfl : i = m := by omega
      have hd0 : bs.drop i = [] := List.drop_eq_nil_of_le (by omega)
      rw [hd0, pD_nil] at hpd
      simp only [Option.map_some, List.append_nil] at hpd
      have hn : E0.length = n := by
        obtain ⟨h1, _⟩ := ow
        rw [flatE_len hok] at h1; omega
      have hr1 : r = chkE E0 := by rw [← hr, dErr, ← hpd]
      have hD1 : D = if chkE E0 = 0 then E0 else [] := by rw [← hD, dOut, ← hpd]
      have hEn := ow.ents hok
      have hck := fun wx h => wrongD_any E0 n sp cp wx hn h hok (by omega)
      rw [← hr1] at hck hD1
      clear hby hD hr hpd ow hsum hr1 hd0
      by_cases hz : r = 0
      · rw [if_pos hz] at hD1
        subst hD1 hz
        go_wp2_with (go_at_call 43; (with_reducible refine Calls.mono (hck _ hEn) ?_); rintro e w2 ⟨rfl, hb2⟩)
        go_ret2
        exact ⟨sp, cp, by rw [hn]; rfl, hEn.below hb2 (Nat.le_refl _), hok, b1.trans (hb2.mono b1.size)⟩
      · rw [if_neg hz] at hD1
        subst hD1
        have hzb : (r == 0) = false := by simp [hz]
        go_upto_region 10 with (go_at_call 43; (with_reducible refine Calls.mono (hck _ hEn) ?_); rintro e w2 ⟨rfl, hb2⟩)
        have hEn2 := hEn.below hb2 (Nat.le_refl _)
        have b3 := b1.trans (hb2.mono b1.size)
        clear hEn
        go_wp2_with (go_at_call 43; (with_reducible refine Calls.mono (hck _ hEn2) ?_); rintro e w3 ⟨rfl, hb3⟩)
        go_ret2
        exact ⟨none, 0, rfl, fun h => by simp at h, fun x hx => (by simp at hx), b3.trans (hb3.mono b3.size)⟩
end Go.Proofs.Ytgcffdnbihfghaa
