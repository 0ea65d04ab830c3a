/- Dir of entries that may be a directory's: their bytes, new. No old memory turns. -/
import Derived.Test.YtgcffdnbihfghaaAppTxt
import Derived.Test.YtgcffdnbihfghaaDirBad
import Derived.Lib.BufferWrite
namespace Go.Proofs.Ytgcffdnbihfghaa
open Go Go.RowKit
theorem bNum_bc (s : ByteArray) : (bNum s).map (Value.int .u8) = Lib.byteCells s.data.toList := by simp [bNum, Lib.byteCells]
theorem copy8s {P : Program} {w : World} {ops : Array Oper} {rest : List Oper} {o : Oper} {a : Act} {Q : Exit → Act → World → Prop} (d s : Operand) (dT sT : TypeId)
    (ho : o.op = .call { callee := .builtin .copy, args := #[d, s], argTypes := #[dT, sT] }) (hgd : o.guard = none) (elem : TypeId) (hu : P.underlying dT = some (.slice elem)) (hsz : (P.info? elem).map (·.size) = some 1)
    (g off dLen dCap : Nat) (hd : a.eval d = .slice (some ⟨g, off, none⟩) dLen dCap) (S : ByteArray) (hs : a.eval s = .string S)
    (l : List Int) (t : TypeId) (hg : Row w g t (v8 l)) (hle : S.size ≤ dLen) (hfit : off + S.size ≤ l.length)
    (h : wpList P ops Q rest (a.put o.dst (.int .i64 S.size)) (w.setRow g (v8 (spl l off (bNum S))))) : wpList P ops Q (o :: rest) a w := by
  refine wpList_plain hgd fun _ hK => ?_
  have hrun := Lib.run_copy_row_string (P := P) w dT sT o.type elem g off dLen dCap S (v8 l) t hu hsz hg hle (by rw [v8_size]; exact hfit)
  have e : ((v8 l).toList.take off ++ Lib.byteCells S.data.toList ++ (v8 l).toList.drop (off + S.size)).toArray = v8 (spl l off (bNum S)) := by
    simp [v8, spl, List.map_take, List.map_drop, bNum_len, bNum_bc]
  rw [e] at hrun
  unfold Oper.wp execOp
  simp only [ho, resolve, invoke, builtin, Sem.run_bind, Sem.run_pure, Result.andThen_ok, List.map_toArray, List.map_cons, List.map_nil, hd, hs, hrun]
  exact hK _ _ (by simpa [goInt] using h)
theorem spl_at {A B cs : List Int} {off : Nat} (h : A.length = off) : spl (A ++ B) off cs = A ++ cs ++ B.drop cs.length := by
  subst h
  simp [spl, List.drop_append]
theorem set_at {A B : List Int} {off : Nat} {x : Int} (h : A.length = off) : (A ++ 0 :: B).set off x = A ++ x :: B := by
  subst h
  simp
theorem zer_drop (n k : Nat) : (zer n).drop k = zer (n - k) := by simp [zer]
theorem zer_suc (n : Nat) : zer (n + 1) = 0 :: zer n := rfl
def parD (E : List Ent) (T j : Nat) : List Int := encD (E.take j) ++ zer (T - (encD (E.take j)).length)
theorem encD_next {E : List Ent} {j : Nat} {e : Ent} (h : E[j]? = some e) : encD (E.take (j + 1)) = encD (E.take j) ++ encE e := by
  rw [List.take_add_one, h]; simp [encD]
theorem encD_cut {E : List Ent} (j : Nat) : (encD (E.take j)).length ≤ (encD E).length := by
  have : encD E = encD (E.take j) ++ encD (E.drop j) := by
    unfold encD; rw [← List.flatMap_append, List.take_append_drop]
  rw [this]; simp
theorem encD_le : ∀ {E : List Ent}, (∀ e ∈ E, e.node.length = 32 ∧ e.name.size ≤ 100) → (encD E).length ≤ E.length * 133
  | [], _ => by simp [encD]
  | e :: t, h => by
    have ih := encD_le (E := t) (fun x hx => h x (by simp [hx]))
    have h1 := h e (by simp)
    have h2 := encE_len h1.1
    have : encD (e :: t) = encE e ++ encD t := by simp [encD]
    rw [this, List.length_append, h2, List.length_cons]; omega
theorem en_node {w : World} {g : Nat} {e : Ent} (h : Row w g 54 (en e)) : Bytes w (some ⟨g, 1, none⟩) e.node := fun _ => ⟨g, 1, rfl, fun j hj => by
  rw [h.cell]
  have : (en e)[1 + j]? = (e.node.map (Value.int .u8))[j]? := by
    rw [Nat.add_comm]; simp [en, ec]
  rw [this]; simp [gi, hj]⟩
set_option maxRecDepth 20000 in
set_option maxHeartbeats 4000000 in
theorem dir_good (E : List Ent) (n : Nat) (p : Option Addr) (cap : Nat) (w : World) (hl : E.length = n) (hE : Ents w p E) (hok : EntsOk E) (hn : n ≤ 1000) (hz : chkE E = 0) (hs : ∀ e ∈ E, e.name.size ≤ 100) :
    Calls Try.prog 22 #[.slice p n cap] w fun e w' => ∃ sp c, e = .returned (.tuple #[.slice sp (encD E).length c, .int .i64 0]) ∧ Own8 w' w.heap.size 5 (.slice sp (encD E).length c) (encD E) ∧ Below w.heap.size w w' := by
  have hck := entries_check E n p cap w hl hE hok (by omega)
  rw [hz] at hck
  have hT : (encD E).length ≤ n * 133 := by rw [← hl]; exact encD_le fun e he => ⟨(hok e he).1, hs e he⟩
  go_enter Try.func22, Try.ntmps22
  go_upto_region 5 with (go_at_call 41; (with_reducible refine Calls.mono hck ?_); rintro e1 w1 ⟨rfl, hb1⟩)
  clear hck hz
  go_wp2
  go_loopw [5, 19] (fun sv iv wr => ∃ j : Nat, j ≤ n ∧ iv = .int .i64 j ∧ sv = .int .i64 ((encD (E.take j)).length : Nat) ∧ Below w.heap.size w wr) (fun _ iv _ => n - (intOf iv).toNat)
  case atStart => exact ⟨0, by omega, rfl, rfl, hb1⟩
  case round =>
    obtain ⟨j, hj, rfl, rfl, b1⟩ := hrel
    by_cases hjn : j < n
    · have hget : E[j]? = some (E[j]'(by omega)) := List.getElem?_eq_getElem (by omega)
      obtain ⟨b, o, rfl, hc⟩ := (hE.below b1 (Nat.le_refl _)) (by omega)
      have hrg := hc j _ hget
      obtain ⟨h1, h2, h3⟩ := hok _ (List.getElem_mem (h := (by omega : j < E.length)))
      have h4 := hs _ (List.getElem_mem (h := (by omega : j < E.length)))
      have hnx := encD_next hget
      have hcut := encD_cut (E := E) j
      generalize E[j]'(by omega) = e at *
      have hnl : (encD (E.take (j + 1))).length = (encD (E.take j)).length + (e.name.size + 33) := by rw [hnx, List.length_append, encE_len h1]
      have hi := info54 h1
      have hi2 : (Try.prog.info? 54).map (·.size) = some (en e).size := info54 h1
      have hold : (en zE).size = (en e).size := by rw [en_size h1]; rfl
      have hsz := fun wx => size_any (e.name.size : Int) wx (by omega) (by omega)
      clear hc hok hE hs hget h1 h2 h3 hnx
      obtain ⟨L1, hL1⟩ : ∃ L1, (encD (E.take (j + 1))).length = L1 := ⟨_, rfl⟩
      have hL1' : Hid ((encD (E.take (j + 1))).length = L1) := ⟨hL1⟩
      rw [hL1] at hnl
      clear hL1
      generalize (encD (E.take j)).length = L0 at *
      generalize (encD E).length = T at *
      go_upto_region 8 with (first | (refine wpList_load_mid (by rfl) 54 (.tmp 21) (by rfl) b (o + j * 33) (by rfl) (ec e) _ hrg Try.underlying54 rfl hi ?_) | (refine store_row0 54 (.tmp 7) (.tmp 22) (by rfl) (by rfl) (by rfl) wr.heap.size (en e) (by rfl) (by rfl) 54 (en zE) (Row.new _ _ _) hi2 hold (en_one e) ?_))
      have r4 : Row ((wr.alloc (.cells (en zE) 54)).setRow wr.heap.size (en e)) wr.heap.size 54 (en e) := (Row.new _ _ _).setRow _
      have bS := below_setRow (b1.alloc b1.size (.cells (en zE) 54)) b1.size (en e)
      have c4 := r4.cell (j := 0)
      rw [en0] at c4
      change Code.wp _ _ _ _ ((wr.alloc (.cells (en zE) 54)).setRow wr.heap.size (en e))
      generalize (wr.alloc (.cells (en zE) 54)).setRow wr.heap.size (en e) = w2 at *
      generalize wr.heap.size = g at *
      clear r4 hi hi2 hold hrg
      generalize e.name = s at *
      go_wp2_with (go_at_call 42; (with_reducible refine Calls.mono (hsz _) ?_); rintro e1 w3 ⟨rfl, hw3⟩; subst hw3)
      go_roundw
      case rel => exact ⟨j + 1, by omega, by go_num, by rw [hL1'.out]; subst hnl; go_num, bS⟩
      case measure => simp [intOf]; omega
    · obtain rfl : j = n := by omega
      have htk : E.take j = E := by rw [← hl]; exact List.take_length
      rw [htk]
      clear hjn hj htk
      obtain ⟨T, hTT⟩ : ∃ T, (encD E).length = T := ⟨_, rfl⟩
      rw [hTT] at hT ⊢
      have hTT' : Hid ((encD E).length = T) := ⟨hTT⟩
      have hp0 : parD E T 0 = zer T := by simp [parD, encD]
      clear hTT
      have hmk : ∀ wx, (Instr.makeSlice 27 (.int .i64 (T : Int)) (.int .i64 (T : Int))).run Try.prog wx = .ok (.slice (some ⟨wx.heap.size, 0, none⟩) T T) (wx.alloc (.cells (v8 (zer T)) 5)) := fun wx => make8 T _ rfl (by omega) wx
      obtain ⟨g, hg⟩ : ∃ g, g = wr.heap.size := ⟨_, rfl⟩
      have hr0 : Row (wr.alloc (.cells (v8 (zer T)) 5)) wr.heap.size 5 (v8 (zer T)) := Row.new _ _ _
      have hb0 : Below w.heap.size w (wr.alloc (.cells (v8 (zer T)) 5)) := b1.alloc b1.size _
      have hgB : w.heap.size ≤ g := by rw [hg]; exact b1.size
      go_upto_region 12 with fail
      rw [← hg] at hr0 ⊢
      change Code.wp _ _ _ _ (wr.alloc (.cells (v8 (zer T)) 5))
      generalize wr.alloc (.cells (v8 (zer T)) 5) = w1 at hr0 hb0 ⊢
      clear hmk hg
      go_wp2
      go_loopw [9, 35] (fun rv iv wr => ∃ i : Nat, i ≤ j ∧ iv = .int .i64 i ∧ (i < j → rv = .slice (some ⟨g, (encD (E.take i)).length, none⟩) (T - (encD (E.take i)).length) (T - (encD (E.take i)).length)) ∧ Row wr g 5 (v8 (parD E T i)) ∧ Below w.heap.size w wr) (fun _ iv _ => j - (intOf iv).toNat)
      case atStart => exact ⟨0, by omega, rfl, fun _ => rfl, by rw [hp0]; exact hr0, hb0⟩
      case round =>
        obtain ⟨i, hi, rfl, hrv, r2, b2⟩ := hrel
        by_cases hij : i < j
        · have hget : E[i]? = some (E[i]'(by omega)) := List.getElem?_eq_getElem (by omega)
          obtain ⟨b, o, rfl, hc⟩ := (hE.below b2 (Nat.le_refl _)) (by omega)
          have hrg := hc i _ hget
          obtain ⟨h1, h2, h3⟩ := hok _ (List.getElem_mem (h := (by omega : i < E.length)))
          have h4 := hs _ (List.getElem_mem (h := (by omega : i < E.length)))
          have hnx := encD_next hget
          have hcut := encD_cut (E := E) (i + 1)
          rw [hTT'.out] at hcut
          have hrest : i + 1 < j → (encD (E.take (i + 1))).length + 33 ≤ T := fun h => by
            have g1 := List.getElem?_eq_getElem (l := E) (i := i + 1) (by omega)
            have g2 := encD_next g1
            have g3 := encE_len (hok _ (List.getElem_mem (h := (by omega : i + 1 < E.length)))).1
            have g4 := encD_cut (E := E) (i + 1 + 1)
            rw [hTT'.out, g2, List.length_append, g3] at g4
            omega
          generalize E[i]'(by omega) = e at *
          have hee := encE_len h1
          have hrv1 := hrv hij
          have hnl : (encD (E.take (i + 1))).length = (encD (E.take i)).length + (e.name.size + 33) := by rw [hnx, List.length_append, hee]
          obtain ⟨off, hof⟩ : ∃ off, (encD (E.take i)).length = off := ⟨_, rfl⟩
          obtain ⟨kk, hkk⟩ : ∃ kk, e.name.size = kk := ⟨_, rfl⟩
          obtain ⟨r, hr⟩ : ∃ r, T - (off + (kk + 33)) = r := ⟨_, rfl⟩
          rw [hof, hkk] at hnl
          rw [hnl] at hrest
          have hrest' : Hid (i + 1 < j → off + (kk + 33) + 33 ≤ T) := ⟨hrest⟩
          clear hrest
          rw [hnl] at hcut
          rw [hof] at hrv1
          have hTr : T = off + (kk + 33) + r := by omega
          have hP0 : parD E T i = encD (E.take i) ++ zer (kk + 33 + r) := by rw [parD, hof, show T - off = kk + 33 + r by omega]
          have hP3 : parD E T (i + 1) = encD (E.take i) ++ (kk : Int) :: (bNum e.name ++ (e.node ++ zer r)) := by rw [parD, hnl, hr, hnx, encE, hkk]; simp
          rw [hP0] at r2
          generalize encD (E.take i) = A at *
          have hPP : Hid (parD E T (i + 1) = A ++ (kk : Int) :: (bNum e.name ++ (e.node ++ zer r))) := ⟨hP3⟩
          have hnl' : Hid ((encD (E.take (i + 1))).length = off + (kk + 33)) := ⟨hnl⟩
          have hP1 : (A ++ zer (kk + 33 + r)).set off (kk : Int) = A ++ (kk : Int) :: zer (kk + 32 + r) := by
            rw [show kk + 33 + r = (kk + 32 + r) + 1 by omega, zer_suc]; exact set_at hof
          have hP2 : spl (A ++ (kk : Int) :: zer (kk + 32 + r)) (off + 1) (bNum e.name) = A ++ (kk : Int) :: (bNum e.name ++ zer (32 + r)) := by
            rw [show A ++ (kk : Int) :: zer (kk + 32 + r) = (A ++ [(kk : Int)]) ++ zer (kk + 32 + r) by simp, spl_at (by simp [hof]), bNum_len, hkk, zer_drop, show kk + 32 + r - kk = 32 + r by omega]; simp
          have hP3b : spl (A ++ (kk : Int) :: (bNum e.name ++ zer (32 + r))) (off + 1 + kk) e.node = A ++ (kk : Int) :: (bNum e.name ++ (e.node ++ zer r)) := by
            rw [show A ++ (kk : Int) :: (bNum e.name ++ zer (32 + r)) = (A ++ (kk : Int) :: bNum e.name) ++ zer (32 + r) by simp, spl_at (by simp [hof, bNum_len, hkk]; omega), h1, zer_drop, show 32 + r - 32 = r by omega]; simp
          have hlA : A.length = off := hof
          have hl1 : (A ++ (kk : Int) :: zer (kk + 32 + r)).length = T := by simp [hlA, zer_len]; omega
          have hl2 : (A ++ (kk : Int) :: (bNum e.name ++ zer (32 + r))).length = T := by simp [hlA, zer_len, bNum_len, hkk]; omega
          have hl0 : (A ++ zer (kk + 33 + r)).length = T := by simp [hlA, zer_len]; omega
          obtain ⟨D, hD⟩ : ∃ D, T - off = D := ⟨_, rfl⟩
          rw [hD] at hrv1
          subst hrv1
          have hDk' : Hid (D = kk + 33 + r) := ⟨by omega⟩
          have hDb : kk + 33 ≤ D := by omega
          have hne1 : ¬ D - 1 = kk := by omega
          have hTr' : Hid (T = off + (kk + 33) + r) := ⟨hTr⟩
          have hTb : off + (kk + 33) ≤ T := by omega
          have hi54 := info54 h1
          have hi2 : (Try.prog.info? 54).map (·.size) = some (en e).size := info54 h1
          have hold : (en zE).size = (en e).size := by rw [en_size h1]; rfl
          clear hTr hD hc hok hE hs hget h2 h3 hnx hcut hrv hP0 hP3 hnl hof hr hee
          go_upto_region 15 with (first | (refine wpList_load_mid (by rfl) 54 (.tmp 37) (by rfl) b (o + i * 33) (by rfl) (ec e) _ hrg Try.underlying54 rfl hi54 ?_) | (refine store_row0 54 (.tmp 11) (.tmp 38) (by rfl) (by rfl) (by rfl) wr.heap.size (en e) (by rfl) (by rfl) 54 (en zE) (Row.new _ _ _) hi2 hold (en_one e) ?_))
          have x3 : Row ((wr.alloc (.cells (en zE) 54)).setRow wr.heap.size (en e)) wr.heap.size 54 (en e) := (Row.new _ _ _).setRow _
          have hglt := r2.lt
          have r3 := (r2.alloc (.cells (en zE) 54)).setRowOther (g := wr.heap.size) (by omega) (en e)
          have b3 := below_setRow (b2.alloc b2.size (.cells (en zE) 54)) b2.size (en e)
          change Code.wp _ _ _ _ ((wr.alloc (.cells (en zE) 54)).setRow wr.heap.size (en e))
          generalize (wr.alloc (.cells (en zE) 54)).setRow wr.heap.size (en e) = w3 at *
          obtain ⟨gx, hgx⟩ : ∃ gx, wr.heap.size = gx := ⟨_, rfl⟩
          rw [hgx] at x3 hglt
          have hgne : g ≠ gx := by omega
          try simp only [hgx]
          clear hi54 hi2 hold hrg r2 b2 hgx hglt
          have c3 := x3.cell (j := 0)
          rw [en0] at c3
          have q0 := r3.cell8 (j := off) (by rw [hl0]; omega)
          have f0 := r3.frozen (j := off)
          have hw8 : IntKind.u8.wrap (kk : Int) = kk := by have := IntKind.wrap_u8 (kk : Int); rw [this]; omega
          generalize hsn : e.name = s at *
          go_upto_region 17 with fail
          have r4 := r3.set8 off (kk : Int)
          rw [hP1] at r4
          have x4 := x3.setOther (a := ⟨g, off, none⟩) (Ne.symm hgne) (.int .u8 (kk : Int))
          have b4 := b3.setCell (p := ⟨g, off, none⟩) (by simpa using hgB) (.int .u8 (kk : Int))
          change Code.wp _ _ _ _ (w3.setCell ⟨g, off, none⟩ (.int .u8 (kk : Int)))
          generalize w3.setCell ⟨g, off, none⟩ (.int .u8 (kk : Int)) = w4 at *
          clear x3 r3 b3 c3 q0 f0 hP1 hl0 hw8
          have c4 := x4.cell (j := 0)
          rw [en0, hsn] at c4
          go_upto_region 18 with (refine copy8s (.tmp 48) (.tmp 50) 27 9 (by rfl) (by rfl) 5 Try.underlying27 (by kernel_rfl) g (off + 1) (D - 1) (D - 1) (by rfl) s (by rfl) _ 5 r4 (by rw [hkk]; omega) (by rw [hl1, hkk]; omega) ?_; rw [hP2, hkk])
          have r5 := r4.setRow (v8 (A ++ (kk : Int) :: (bNum s ++ zer (32 + r))))
          have x5 := x4.setRowOther (g := g) (Ne.symm hgne) (v8 (A ++ (kk : Int) :: (bNum s ++ zer (32 + r))))
          have b5 := below_setRow b4 hgB (v8 (A ++ (kk : Int) :: (bNum s ++ zer (32 + r))))
          change Code.wp _ _ _ _ (w4.setRow g (v8 (A ++ (kk : Int) :: (bNum s ++ zer (32 + r)))))
          generalize w4.setRow g (v8 (A ++ (kk : Int) :: (bNum s ++ zer (32 + r)))) = w5 at *
          have hbn := en_node x5
          clear r4 x4 b4 c4 hP2 hl1 x5
          have r6 := r5.setRow (v8 (A ++ (kk : Int) :: (bNum s ++ (e.node ++ zer r))))
          have b6 := below_setRow b5 hgB (v8 (A ++ (kk : Int) :: (bNum s ++ (e.node ++ zer r))))
          have hTb2 : off + 1 + kk + 32 ≤ T := by omega
          have hDb2 : 32 ≤ D - 1 - kk := by omega
          by_cases hr0 : r = 0
          · have hd1 : D - 1 - kk = 32 := by have := hDk'.out; omega
            have hr0' : Hid (r = 0) := ⟨hr0⟩
            clear hr0
            go_wp2_with (refine copy8 (.tmp 54) (.tmp 56) 27 27 (by rfl) (by rfl) 5 Try.underlying27 (by kernel_rfl) (some ⟨g, off + 1 + kk, none⟩) (some ⟨gx, 1, none⟩) _ _ 32 32 (by rfl) (by rfl) g (off + 1 + kk) (A ++ (kk : Int) :: (bNum s ++ zer (32 + r))) 5 r5 e.node (by rw [h1]; omega) (fun _ => rfl) hbn (by rw [h1, hl2]; omega) ?_; rw [hP3b, h1])
            go_roundw
            case rel => exact ⟨i + 1, by omega, by go_num, fun h => absurd (hrest'.out h) (by have := hTr'.out; have := hr0'.out; omega), by rw [hPP.out]; exact r6, b6⟩
            case measure => simp [intOf]; omega
          · have hd1 : ¬ D - 1 - kk = 32 := by have := hDk'.out; omega
            go_wp2_with (refine copy8 (.tmp 54) (.tmp 56) 27 27 (by rfl) (by rfl) 5 Try.underlying27 (by kernel_rfl) (some ⟨g, off + 1 + kk, none⟩) (some ⟨gx, 1, none⟩) _ _ 32 32 (by rfl) (by rfl) g (off + 1 + kk) (A ++ (kk : Int) :: (bNum s ++ zer (32 + r))) 5 r5 e.node (by rw [h1]; omega) (fun _ => rfl) hbn (by rw [h1, hl2]; omega) ?_; rw [hP3b, h1])
            go_roundw
            case rel => exact ⟨i + 1, by omega, by go_num, fun h => by rw [hnl'.out]; have h1 := hTr'.out; have h2 := hDk'.out; rw [show off + (kk + 33) = off + 1 + kk + 32 by omega, show T - (off + 1 + kk + 32) = D - 1 - kk - 32 by omega], by rw [hPP.out]; exact r6, b6⟩
            case measure => simp [intOf]; omega
        · obtain rfl : i = j := by omega
          have htk : E.take i = E := by rw [← hl]; exact List.take_length
          have hfin : parD E T i = encD E := by rw [parD, htk, hTT'.out, Nat.sub_self]; simp [zer]
          rw [hfin] at r2
          go_wp2
          go_ret2
          exact ⟨some ⟨g, 0, none⟩, T, by rw [hTT'.out]; rfl, by rw [hTT'.out]; exact (own8_row r2 hTT'.out (by unfold maxLen; omega)).mono hgB, b2⟩
end Go.Proofs.Ytgcffdnbihfghaa
