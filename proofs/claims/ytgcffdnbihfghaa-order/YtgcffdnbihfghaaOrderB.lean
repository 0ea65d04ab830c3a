/- BlobOrder returns true and turns no old memory, for any rows of numbers and numbers. No condition. -/
import Derived.Test.YtgcffdnbihfghaaEncD
import Derived.Test.YtgcffdnbihfghaaDirBad
import Derived.Test.YtgcffdnbihfghaaArgRows
import Derived.Test.YtgcffdnbihfghaaEntAt
import Derived.Lib.EndianMore
import Derived.Test.YtgcffdnbihfghaaAppTxt
namespace Go.Proofs.Ytgcffdnbihfghaa
open Go Go.RowKit
theorem EA.drew1 {w : World} {g : Nat} {E : List Ent} (h : EA w g E) : EA (w.drewN 1) g E := ⟨fun i e hi => h.rng i e hi, fun i hi => h.here i hi⟩
theorem Own8.drew1 {w : World} {B : Nat} {e : TypeId} {v : Value} {l : List Int} (h : Own8 w B e v l) : Own8 (w.drewN 1) B e v l := h
theorem Own8.cap {w : World} {B n cap : Nat} {e : TypeId} {sp : Option Addr} {l : List Int} (h : Own8 w B e (.slice sp n cap) l) : n ≤ cap := by
  obtain ⟨_, h⟩ := h
  rcases h with ⟨h1, h2⟩ | ⟨g', cap', cur, hv, _, _, h5, _⟩
  · injection h1 with h3 h4 h5; omega
  · injection hv with h3 h4 h6; omega
theorem wrap88 {x : Int} (h : 0 ≤ x ∧ x ≤ 49) : IntKind.u8.wrap x = x := by
  obtain ⟨h1, h2⟩ := h
  have := IntKind.wrap_u8 x
  rw [this]; omega
theorem encD_by {E : List Ent} (h : EntsOk E) (hs : ∀ e ∈ E, e.name.size ≤ 255) : By (encD E) := fun x hx => by
  obtain ⟨e, he, hx⟩ := List.mem_flatMap.1 hx
  obtain ⟨h1, h2, h3⟩ := h e he
  have h4 := hs e he
  rcases List.mem_cons.1 hx with rfl | hx
  · omega
  rcases List.mem_append.1 hx with hx | hx
  · exact bNum_by _ x hx
  · exact h2 x hx
theorem set_ok {E : List Ent} {k : Nat} {e : Ent} (h : EntsOk E) (he : EntOk e) : EntsOk (E.set k e) := fun x hx => by
  rcases List.mem_or_eq_of_mem_set hx with h1 | h1
  · exact h x h1
  · subst h1; exact he
theorem good_nm (zs : List Int) : GoodE ⟨nm zs, zer 32⟩ := ⟨by rw [nm_data]; exact nm_chk zs, nm_size zs, rfl⟩
theorem good_ok {E : List Ent} (h : ∀ e ∈ E, GoodE e) : EntsOk E := fun e he => by
  obtain ⟨_, h2, h3⟩ := h e he
  refine ⟨by rw [h3]; rfl, fun x hx => ?_, by omega⟩
  rw [h3] at hx; simp [zer] at hx; omega
/-- What the rest of the law asks of the list that the names make. -/
def Rest (w : World) (v : Value) (m : Nat) (E : List Ent) (w0 : World) : Prop := OwnE w w0.heap.size v m E ∧ (∀ e ∈ E, GoodE e) ∧ rise E = true ∧ E.length = m ∧ Below w0.heap.size w0 w
theorem chk_ab : chk [97, 47, 98] = 10 := by decide
theorem chk_no : chk [] = 10 := by decide
theorem spoil {E : List Ent} {k : Nat} {e : Ent} (hg : ∀ x ∈ E, GoodE x) (hget : E[k]? = some e) (s : ByteArray) (hs : chk s.data.toList = 10) (hz : s.size ≤ 49) : chkE (E.set k ⟨s, e.node⟩) = 10 ∧ (∀ x ∈ E.set k ⟨s, e.node⟩, x.node = zer 32 ∧ x.name.size ≤ 49) := by
  have hk : k < E.length := (List.getElem?_eq_some_iff.1 hget).1
  refine ⟨chkE_bad (nmE_bad (k := k) (e := ⟨s, e.node⟩) (fun i f hi hf => ?_) (List.getElem?_set_self hk) hs (by decide)) (by decide), fun x hx => ?_⟩
  · rw [List.getElem?_set_ne (by omega)] at hf
    exact (hg f (List.mem_of_getElem? hf)).1
  · rcases List.mem_or_eq_of_mem_set hx with h | h
    · exact ⟨(hg x h).2.2, (hg x h).2.1⟩
    · subst h; exact ⟨(hg e (List.mem_of_getElem? hget)).2.2, hz⟩
set_option maxRecDepth 20000 in
set_option maxHeartbeats 16000000 in
theorem order_walk0 (zss : List (List Int)) (which at_ : Int) (p : Option Addr) (n cap : Nat) (w : World) (hl : zss.length = n) (hn : n ≤ 9223372036854775807) (hz : Ints2 w p zss) :
    Calls Try.prog 8 #[.slice p n cap, .int .i64 which, .int .i64 at_] w fun e w' => e = .returned (.bool true) ∧ Below w.heap.size w w' := by
  by_cases h22 : n > 22
  · have h22i : (22 : Int) < n := by omega
    go_enter Try.func8, Try.ntmps8
    go_wp2_with (go_at_call 9; (with_reducible refine Calls.mono (known_any _) ?_); rintro e w1 ⟨rfl, hb1⟩)
    go_ret
    exact ⟨rfl, hb1⟩
  have h22i : (n : Int) ≤ 22 := by omega
  go_enter Try.func8, Try.ntmps8
  go_upto_region 6 with (go_at_call 9; (with_reducible refine Calls.mono (known_any _) ?_); rintro e w1 ⟨rfl, hb1⟩)
  go_wp2
  go_loopw [7, 8] (fun lv iv wr => ∃ (i m : Nat) (E : List Ent) (sp : Option Addr) (cp : Nat), lv = .slice sp m cp ∧ iv = .int .i64 i ∧ i ≤ n ∧ m ≤ i ∧ Rest wr (.slice sp m cp) m E w) (fun _ iv _ => n - (intOf iv).toNat)
  case atStart => exact ⟨0, 0, [], none, 0, rfl, rfl, by omega, by omega, ownE_none _ _, fun e he => (by simp at he), rfl, rfl, hb1⟩
  case round =>
    obtain ⟨i, m, E, sp, cp, rfl, rfl, hi, hm, hre⟩ := hrel
    by_cases hin : i < n
    · obtain ⟨ow, hg, hri, hEl, b1⟩ := hre
      obtain ⟨b, o, rfl, hc⟩ := (hz.below b1 (Nat.le_refl _)) (by omega)
      obtain ⟨q, c, h1, h2, h3⟩ := hc i (by omega)
      have hini : (i : Int) < n := by omega
      generalize zss.getD i [] = zs at *
      have hna := name_any zs q c wr h2 (by unfold maxLen at h3; omega)
      have hgs := good_nm zs
      clear hc h2 h3 hz
      generalize nm zs = s at *
      generalize zs.length = zl at *
      go_upto_region 10 with (go_at_call 21; (with_reducible refine Calls.mono hna ?_); rintro e w2 ⟨rfl, hb2⟩)
      have ow2 := ow.below hb2 (Nat.le_refl _)
      have hE2 := ow2.ents (good_ok hg)
      have b2 := b1.trans (hb2.mono b1.size)
      clear ow b1 hna h1 hb2
      have hb := b2.size
      have hgE : ∀ x ∈ E ++ [⟨s, zer 32⟩], GoodE x := fun x hx => by
        rcases List.mem_append.1 hx with h | h
        · exact hg x h
        · obtain rfl : x = ⟨s, zer 32⟩ := by simpa using h
          exact hgs
      have ow3 := ow2.below ((Below.refl w2.heap.size w2).alloc (Nat.le_refl _) (.cells (en ⟨s, zer 32⟩) 54)) (Nat.le_refl _)
      have bA := b2.alloc hb (.cells (en ⟨s, zer 32⟩) 54)
      have hb3 := bA.size
      by_cases hm0 : m = 0
      · subst hm0
        obtain rfl : E = [] := List.eq_nil_of_length_eq_zero hEl
        clear ow2 hE2
        go_wp2_with (first | (refine bs54 (.tmp 50) (by rfl) (by rfl) ⟨s, zer 32⟩ (by rfl) (by rfl) ?_) | (at_builtin; (refine append54 (.tmp 48) (.tmp 51) (by rfl) (by rfl) w.heap.size (.slice sp 0 cp) 0 [] (by rfl) ow3 w2.heap.size ⟨s, zer 32⟩ (by rfl) (by rfl) (Row.new _ _ _) (by omega) hb3 ?_; intro sp2 cp2 w3 ow4 b3)))
        go_roundw
        case rel => exact ⟨i + 1, 1, [⟨s, zer 32⟩], sp2, cp2, rfl, by go_num, by omega, by omega, ow4, hgE, rfl, rfl, bA.trans b3⟩
        case measure => simp [intOf]; omega
      · obtain ⟨m, rfl⟩ : ∃ k, m = k + 1 := ⟨m - 1, by omega⟩
        obtain ⟨g, og, rfl, hcE⟩ := hE2 (by omega)
        obtain ⟨e, hget⟩ : ∃ e, E[m]? = some e := ⟨_, List.getElem?_eq_getElem (by omega)⟩
        have hlast : E.getLast? = some e := by rw [List.getLast?_eq_getElem?, hEl]; exact hget
        have c1 := range0 (hcE m _ hget)
        have hsn := rise_snoc (e := ⟨s, zer 32⟩) hri
        rw [hlast] at hsn
        have hsn2 : lessE e ⟨s, zer 32⟩ = true → rise (E ++ [⟨s, zer 32⟩]) = true := fun h => hsn (fun f hf => by cases hf; exact h)
        rw [lessE] at hsn2
        simp only at hsn2
        clear hcE hsn hget hlast
        have hmi : ((m : Int) + 1 == 0) = false := by simp; omega
        cases hq : Op.bytesLess e.name.toList s.toList
        · go_wp2
          go_roundw
          case rel => exact ⟨i + 1, m + 1, E, _, cp, rfl, by go_num, by omega, by omega, ow2, hg, hri, hEl, b2⟩
          case measure => simp [intOf]; omega
        · go_wp2_with (first | (refine bs54 (.tmp 50) (by rfl) (by rfl) ⟨s, zer 32⟩ (by rfl) (by rfl) ?_) | (at_builtin; (refine append54 (.tmp 48) (.tmp 51) (by rfl) (by rfl) w.heap.size (.slice (some ⟨g, og, none⟩) (m + 1) cp) (m + 1) E (by rfl) ow3 w2.heap.size ⟨s, zer 32⟩ (by rfl) (by rfl) (Row.new _ _ _) (by omega) hb3 ?_; intro sp2 cp2 w3 ow4 b3)))
          go_roundw
          case rel => exact ⟨i + 1, m + 1 + 1, E ++ [⟨s, zer 32⟩], sp2, cp2, rfl, by go_num, by omega, by omega, ow4, hgE, hsn2 hq, by simp [hEl], bA.trans b3⟩
          case measure => simp [intOf]; omega
    · obtain ⟨ow, hg, hri, hEl, b1⟩ := hre
      have hini : (n : Int) ≤ i := by omega
      by_cases hm2 : m < 2
      · have hm2i : (m : Int) < 2 := by omega
        go_wp2
        go_ret
        exact ⟨rfl, b1⟩
      by_cases hm20 : 20 < m
      · have hm2i : (20 : Int) < m := by omega
        go_wp2
        go_ret
        exact ⟨rfl, b1⟩
      have hm2i : (2 : Int) ≤ m := by omega
      have hm20i : (m : Int) ≤ 20 := by omega
      have hok := good_ok hg
      obtain ⟨g, rfl, hwg, hea, _⟩ := ow.ea hok (by omega)
      have hw1 := fun wx => within_any at_ ((m : Int) - 1) wx (by omega) (by omega)
      have hw2 := fun wx => within_any which 4 wx (by decide) (by decide)
      obtain ⟨k, hk⟩ : ∃ k : Nat, at_ % ((m : Int) - 1) = k := ⟨(at_ % ((m : Int) - 1)).toNat, by have := Int.emod_nonneg at_ (show (m : Int) - 1 ≠ 0 by omega); omega⟩
      have hkm : k + 1 < m := by have := Int.emod_lt_of_pos at_ (show (0 : Int) < (m : Int) - 1 by omega); omega
      rw [hk] at hw1
      have hy : which % 4 = 0 ∨ which % 4 = 1 ∨ which % 4 = 2 ∨ which % 4 = 3 := by omega
      generalize which % 4 = y at *
      have hget : ∃ e, E[k]? = some e := ⟨_, List.getElem?_eq_getElem (by omega)⟩
      have hget2 : ∃ f, E[k + 1]? = some f := ⟨_, List.getElem?_eq_getElem (by omega)⟩
      obtain ⟨e, hget⟩ := hget
      obtain ⟨f, hget2⟩ := hget2
      have hkmi : (k : Int) + 1 < m := by omega
      have hr1 := hea.rng k e hget
      have hr2 := hea.rng (k + 1) f hget2
      have ht1 := hea.here k (by omega)
      have ht2 := hea.here (k + 1) (by omega)
      have he := hok e (List.mem_of_getElem? hget)
      have hf := hok f (List.mem_of_getElem? hget2)
      have hie := info54 he.1
      have hif := info54 hf.1
      clear ow hz
      have c1 := range0 hr1
      have f1 : wr.frozen? ⟨g, k * 33, none⟩ = false := (ht1 0 (by decide)).2
      have hnm0 := nmE_good hg
      rcases hy with rfl | rfl | rfl | rfl
      · go_upto_region 18 with (first | (go_at_call 27; (with_reducible refine Calls.mono (hw1 _) ?_); rintro e1 w2 ⟨rfl, hw⟩; obtain rfl := hw.symm; clear hw) | (go_at_call 27; (with_reducible refine Calls.mono (hw2 _) ?_); rintro e1 w2 ⟨rfl, hw⟩; obtain rfl := hw.symm; clear hw))
        have hok1 := set_ok (k := k) hok (hok _ (List.mem_of_getElem? hget2))
        refine region_invFA (by kernel_rfl) (by kernel_rfl) (fun a0 listed a w0 => ∃ s70 s71 s72 s73 s74 s75 s76 s77 s78 s79 s80 s81 s82 s83 s84 s85, a = (Act.put (Act.put (Act.put (Act.put (Act.put (Act.put (Act.put (Act.put (Act.put (Act.put (Act.put (Act.put (Act.put (Act.put (Act.put (Act.put a0 (some 70) s70) (some 71) s71) (some 72) s72) (some 73) s73) (some 74) s74) (some 75) s75) (some 76) s76) (some 77) s77) (some 78) s78) (some 79) s79) (some 80) s80) (some 81) s81) (some 82) s82) (some 83) s83) (some 84) s84) (some 85) s85) ∧ Below w.heap.size wr w0 ∧ (listed.getD 0 false = true → s70 = (.slice (some ⟨g, 0, none⟩) m cp)) ∧ (listed.getD 1 false = true → s71 = (.int .i64 k)) ∧ (listed.getD 2 false = true → s72 = (.slice (some ⟨g, 0, none⟩) m cp)) ∧ (listed.getD 3 false = true → s73 = (.int .i64 k)) ∧ (listed.getD 4 false = true → s74 = (.int .i64 ((k : Int) + 1))) ∧ (listed.getD 5 false = true → s75 = (.slice (some ⟨g, 0, none⟩) m cp)) ∧ (listed.getD 6 false = true → s76 = (.int .i64 k)) ∧ (listed.getD 7 false = true → s77 = (.int .i64 ((k : Int) + 1))) ∧ (listed.getD 8 false = true → s78 = (.pointer (some ⟨g, (k + 1) * 33, none⟩))) ∧ (listed.getD 9 false = true → s79 = (.agg (en f))) ∧ (listed.getD 10 false = true → s80 = (.slice (some ⟨g, 0, none⟩) m cp)) ∧ (listed.getD 11 false = true → s81 = (.int .i64 k)) ∧ (listed.getD 12 false = true → s82 = (.pointer (some ⟨g, k * 33, none⟩))) ∧ (listed.getD 13 false = true → s83 = (.agg (en e))) ∧ (listed.getD 14 false = true → s84 = (.pointer (some ⟨g, k * 33, none⟩))) ∧ (listed.getD 16 false = true → s85 = (.pointer (some ⟨g, (k + 1) * 33, none⟩))) ∧ (listed.getD 15 false = false → EA w0 g E) ∧ (listed.getD 15 false = true → listed.getD 17 false = false → EA w0 g (E.set k f)) ∧ (listed.getD 17 false = true → EA w0 g ((E.set k f).set (k + 1) e))) ?_ ?_ ?_
        all_goals simp only [Act.put, List.setIfInBounds_toArray, List.set_cons_succ, List.set_cons_zero]
        · exact ⟨_, _, _, _, _, _, _, _, _, _, _, _, _, _, _, _, rfl, (Below.refl w.heap.size _).drew, (fun h => absurd h (by rw [getD_replicate_false]; decide)), (fun h => absurd h (by rw [getD_replicate_false]; decide)), (fun h => absurd h (by rw [getD_replicate_false]; decide)), (fun h => absurd h (by rw [getD_replicate_false]; decide)), (fun h => absurd h (by rw [getD_replicate_false]; decide)), (fun h => absurd h (by rw [getD_replicate_false]; decide)), (fun h => absurd h (by rw [getD_replicate_false]; decide)), (fun h => absurd h (by rw [getD_replicate_false]; decide)), (fun h => absurd h (by rw [getD_replicate_false]; decide)), (fun h => absurd h (by rw [getD_replicate_false]; decide)), (fun h => absurd h (by rw [getD_replicate_false]; decide)), (fun h => absurd h (by rw [getD_replicate_false]; decide)), (fun h => absurd h (by rw [getD_replicate_false]; decide)), (fun h => absurd h (by rw [getD_replicate_false]; decide)), (fun h => absurd h (by rw [getD_replicate_false]; decide)), (fun h => absurd h (by rw [getD_replicate_false]; decide)), (fun _ => hea.drew1), (fun h => absurd h (by rw [getD_replicate_false]; decide)), (fun h => absurd h (by rw [getD_replicate_false]; decide))⟩
        · intro listed a w0 i o hls hJ hin ho hi hall hcl
          obtain ⟨s70, s71, s72, s73, s74, s75, s76, s77, s78, s79, s80, s81, s82, s83, s84, s85, rfl, hbW, c0, c1, c2, c3, c4, c5, c6, c7, c8, c9, c10, c11, c12, c13, c14, c16, cw0, cw1, cw2⟩ := hJ
          replace hin : i < 18 := hin
          rcases (by omega : i = 0 ∨ i = 1 ∨ i = 2 ∨ i = 3 ∨ i = 4 ∨ i = 5 ∨ i = 6 ∨ i = 7 ∨ i = 8 ∨ i = 9 ∨ i = 10 ∨ i = 11 ∨ i = 12 ∨ i = 13 ∨ i = 14 ∨ i = 15 ∨ i = 16 ∨ i = 17) with rfl | rfl | rfl | rfl | rfl | rfl | rfl | rfl | rfl | rfl | rfl | rfl | rfl | rfl | rfl | rfl | rfl | rfl
          · obtain rfl := Option.some.inj ho
            have hsz : 0 < listed.size := by rw [hls]; decide
            have hbw := hbW
            refine inv_val (w' := w0) (.slice (some ⟨g, 0, none⟩) m cp) rfl rfl rfl ?_
            exact ⟨(.slice (some ⟨g, 0, none⟩) m cp), s71, s72, s73, s74, s75, s76, s77, s78, s79, s80, s81, s82, s83, s84, s85, rfl, hbw, (fun _ => rfl), (fun h => c1 (bit_ne h (by decide))), (fun h => c2 (bit_ne h (by decide))), (fun h => c3 (bit_ne h (by decide))), (fun h => c4 (bit_ne h (by decide))), (fun h => c5 (bit_ne h (by decide))), (fun h => c6 (bit_ne h (by decide))), (fun h => c7 (bit_ne h (by decide))), (fun h => c8 (bit_ne h (by decide))), (fun h => c9 (bit_ne h (by decide))), (fun h => c10 (bit_ne h (by decide))), (fun h => c11 (bit_ne h (by decide))), (fun h => c12 (bit_ne h (by decide))), (fun h => c13 (bit_ne h (by decide))), (fun h => c14 (bit_ne h (by decide))), (fun h => c16 (bit_ne h (by decide))), (fun h => cw0 (bit_ne h (by decide))), (fun h h2 => cw1 (bit_ne h (by decide)) (bit_ne h2 (by decide))), (fun h => cw2 (bit_ne h (by decide)))⟩
          · obtain rfl := Option.some.inj ho
            have hsz : 1 < listed.size := by rw [hls]; decide
            have hbw := hbW
            refine inv_val (w' := w0) (.int .i64 k) rfl rfl rfl ?_
            exact ⟨s70, (.int .i64 k), s72, s73, s74, s75, s76, s77, s78, s79, s80, s81, s82, s83, s84, s85, rfl, hbw, (fun h => c0 (bit_ne h (by decide))), (fun _ => rfl), (fun h => c2 (bit_ne h (by decide))), (fun h => c3 (bit_ne h (by decide))), (fun h => c4 (bit_ne h (by decide))), (fun h => c5 (bit_ne h (by decide))), (fun h => c6 (bit_ne h (by decide))), (fun h => c7 (bit_ne h (by decide))), (fun h => c8 (bit_ne h (by decide))), (fun h => c9 (bit_ne h (by decide))), (fun h => c10 (bit_ne h (by decide))), (fun h => c11 (bit_ne h (by decide))), (fun h => c12 (bit_ne h (by decide))), (fun h => c13 (bit_ne h (by decide))), (fun h => c14 (bit_ne h (by decide))), (fun h => c16 (bit_ne h (by decide))), (fun h => cw0 (bit_ne h (by decide))), (fun h h2 => cw1 (bit_ne h (by decide)) (bit_ne h2 (by decide))), (fun h => cw2 (bit_ne h (by decide)))⟩
          · obtain rfl := Option.some.inj ho
            have hsz : 2 < listed.size := by rw [hls]; decide
            have hbw := hbW
            refine inv_val (w' := w0) (.slice (some ⟨g, 0, none⟩) m cp) rfl rfl rfl ?_
            exact ⟨s70, s71, (.slice (some ⟨g, 0, none⟩) m cp), s73, s74, s75, s76, s77, s78, s79, s80, s81, s82, s83, s84, s85, rfl, hbw, (fun h => c0 (bit_ne h (by decide))), (fun h => c1 (bit_ne h (by decide))), (fun _ => rfl), (fun h => c3 (bit_ne h (by decide))), (fun h => c4 (bit_ne h (by decide))), (fun h => c5 (bit_ne h (by decide))), (fun h => c6 (bit_ne h (by decide))), (fun h => c7 (bit_ne h (by decide))), (fun h => c8 (bit_ne h (by decide))), (fun h => c9 (bit_ne h (by decide))), (fun h => c10 (bit_ne h (by decide))), (fun h => c11 (bit_ne h (by decide))), (fun h => c12 (bit_ne h (by decide))), (fun h => c13 (bit_ne h (by decide))), (fun h => c14 (bit_ne h (by decide))), (fun h => c16 (bit_ne h (by decide))), (fun h => cw0 (bit_ne h (by decide))), (fun h h2 => cw1 (bit_ne h (by decide)) (bit_ne h2 (by decide))), (fun h => cw2 (bit_ne h (by decide)))⟩
          · obtain rfl := Option.some.inj ho
            have hsz : 3 < listed.size := by rw [hls]; decide
            have hbw := hbW
            refine inv_val (w' := w0) (.int .i64 k) rfl rfl rfl ?_
            exact ⟨s70, s71, s72, (.int .i64 k), s74, s75, s76, s77, s78, s79, s80, s81, s82, s83, s84, s85, rfl, hbw, (fun h => c0 (bit_ne h (by decide))), (fun h => c1 (bit_ne h (by decide))), (fun h => c2 (bit_ne h (by decide))), (fun _ => rfl), (fun h => c4 (bit_ne h (by decide))), (fun h => c5 (bit_ne h (by decide))), (fun h => c6 (bit_ne h (by decide))), (fun h => c7 (bit_ne h (by decide))), (fun h => c8 (bit_ne h (by decide))), (fun h => c9 (bit_ne h (by decide))), (fun h => c10 (bit_ne h (by decide))), (fun h => c11 (bit_ne h (by decide))), (fun h => c12 (bit_ne h (by decide))), (fun h => c13 (bit_ne h (by decide))), (fun h => c14 (bit_ne h (by decide))), (fun h => c16 (bit_ne h (by decide))), (fun h => cw0 (bit_ne h (by decide))), (fun h h2 => cw1 (bit_ne h (by decide)) (bit_ne h2 (by decide))), (fun h => cw2 (bit_ne h (by decide)))⟩
          · obtain rfl := Option.some.inj ho
            have hsz : 4 < listed.size := by rw [hls]; decide
            have hdep3 : listed.getD 3 false = true := hall ⟨3, .data⟩ (by simp) (by rfl)
            obtain rfl := c3 hdep3
            have hbw := hbW
            refine inv_val (w' := w0) (.int .i64 ((k : Int) + 1)) rfl rfl (by have hk9 : IntKind.i64.wrap ((k : Int) + 1) = (k : Int) + 1 := (by rw [IntKind.wrap_i64]; omega); go_simp) ?_
            exact ⟨s70, s71, s72, (.int .i64 k), (.int .i64 ((k : Int) + 1)), s75, s76, s77, s78, s79, s80, s81, s82, s83, s84, s85, rfl, hbw, (fun h => c0 (bit_ne h (by decide))), (fun h => c1 (bit_ne h (by decide))), (fun h => c2 (bit_ne h (by decide))), (fun h => c3 (bit_ne h (by decide))), (fun _ => rfl), (fun h => c5 (bit_ne h (by decide))), (fun h => c6 (bit_ne h (by decide))), (fun h => c7 (bit_ne h (by decide))), (fun h => c8 (bit_ne h (by decide))), (fun h => c9 (bit_ne h (by decide))), (fun h => c10 (bit_ne h (by decide))), (fun h => c11 (bit_ne h (by decide))), (fun h => c12 (bit_ne h (by decide))), (fun h => c13 (bit_ne h (by decide))), (fun h => c14 (bit_ne h (by decide))), (fun h => c16 (bit_ne h (by decide))), (fun h => cw0 (bit_ne h (by decide))), (fun h h2 => cw1 (bit_ne h (by decide)) (bit_ne h2 (by decide))), (fun h => cw2 (bit_ne h (by decide)))⟩
          · obtain rfl := Option.some.inj ho
            have hsz : 5 < listed.size := by rw [hls]; decide
            have hbw := hbW
            refine inv_val (w' := w0) (.slice (some ⟨g, 0, none⟩) m cp) rfl rfl rfl ?_
            exact ⟨s70, s71, s72, s73, s74, (.slice (some ⟨g, 0, none⟩) m cp), s76, s77, s78, s79, s80, s81, s82, s83, s84, s85, rfl, hbw, (fun h => c0 (bit_ne h (by decide))), (fun h => c1 (bit_ne h (by decide))), (fun h => c2 (bit_ne h (by decide))), (fun h => c3 (bit_ne h (by decide))), (fun h => c4 (bit_ne h (by decide))), (fun _ => rfl), (fun h => c6 (bit_ne h (by decide))), (fun h => c7 (bit_ne h (by decide))), (fun h => c8 (bit_ne h (by decide))), (fun h => c9 (bit_ne h (by decide))), (fun h => c10 (bit_ne h (by decide))), (fun h => c11 (bit_ne h (by decide))), (fun h => c12 (bit_ne h (by decide))), (fun h => c13 (bit_ne h (by decide))), (fun h => c14 (bit_ne h (by decide))), (fun h => c16 (bit_ne h (by decide))), (fun h => cw0 (bit_ne h (by decide))), (fun h h2 => cw1 (bit_ne h (by decide)) (bit_ne h2 (by decide))), (fun h => cw2 (bit_ne h (by decide)))⟩
          · obtain rfl := Option.some.inj ho
            have hsz : 6 < listed.size := by rw [hls]; decide
            have hbw := hbW
            refine inv_val (w' := w0) (.int .i64 k) rfl rfl rfl ?_
            exact ⟨s70, s71, s72, s73, s74, s75, (.int .i64 k), s77, s78, s79, s80, s81, s82, s83, s84, s85, rfl, hbw, (fun h => c0 (bit_ne h (by decide))), (fun h => c1 (bit_ne h (by decide))), (fun h => c2 (bit_ne h (by decide))), (fun h => c3 (bit_ne h (by decide))), (fun h => c4 (bit_ne h (by decide))), (fun h => c5 (bit_ne h (by decide))), (fun _ => rfl), (fun h => c7 (bit_ne h (by decide))), (fun h => c8 (bit_ne h (by decide))), (fun h => c9 (bit_ne h (by decide))), (fun h => c10 (bit_ne h (by decide))), (fun h => c11 (bit_ne h (by decide))), (fun h => c12 (bit_ne h (by decide))), (fun h => c13 (bit_ne h (by decide))), (fun h => c14 (bit_ne h (by decide))), (fun h => c16 (bit_ne h (by decide))), (fun h => cw0 (bit_ne h (by decide))), (fun h h2 => cw1 (bit_ne h (by decide)) (bit_ne h2 (by decide))), (fun h => cw2 (bit_ne h (by decide)))⟩
          · obtain rfl := Option.some.inj ho
            have hsz : 7 < listed.size := by rw [hls]; decide
            have hdep6 : listed.getD 6 false = true := hall ⟨6, .data⟩ (by simp) (by rfl)
            obtain rfl := c6 hdep6
            have hbw := hbW
            refine inv_val (w' := w0) (.int .i64 ((k : Int) + 1)) rfl rfl (by have hk9 : IntKind.i64.wrap ((k : Int) + 1) = (k : Int) + 1 := (by rw [IntKind.wrap_i64]; omega); go_simp) ?_
            exact ⟨s70, s71, s72, s73, s74, s75, (.int .i64 k), (.int .i64 ((k : Int) + 1)), s78, s79, s80, s81, s82, s83, s84, s85, rfl, hbw, (fun h => c0 (bit_ne h (by decide))), (fun h => c1 (bit_ne h (by decide))), (fun h => c2 (bit_ne h (by decide))), (fun h => c3 (bit_ne h (by decide))), (fun h => c4 (bit_ne h (by decide))), (fun h => c5 (bit_ne h (by decide))), (fun h => c6 (bit_ne h (by decide))), (fun _ => rfl), (fun h => c8 (bit_ne h (by decide))), (fun h => c9 (bit_ne h (by decide))), (fun h => c10 (bit_ne h (by decide))), (fun h => c11 (bit_ne h (by decide))), (fun h => c12 (bit_ne h (by decide))), (fun h => c13 (bit_ne h (by decide))), (fun h => c14 (bit_ne h (by decide))), (fun h => c16 (bit_ne h (by decide))), (fun h => cw0 (bit_ne h (by decide))), (fun h h2 => cw1 (bit_ne h (by decide)) (bit_ne h2 (by decide))), (fun h => cw2 (bit_ne h (by decide)))⟩
          · obtain rfl := Option.some.inj ho
            have hsz : 8 < listed.size := by rw [hls]; decide
            have hdep5 : listed.getD 5 false = true := hall ⟨5, .data⟩ (by simp) (by rfl)
            obtain rfl := c5 hdep5
            have hdep7 : listed.getD 7 false = true := hall ⟨7, .data⟩ (by simp) (by rfl)
            obtain rfl := c7 hdep7
            have hbw := hbW
            refine inv_val (w' := w0) (.pointer (some ⟨g, (k + 1) * 33, none⟩)) rfl rfl (by have hk0 : ¬ ((k : Int) + 1 < 0) := (by omega); go_simp) ?_
            exact ⟨s70, s71, s72, s73, s74, (.slice (some ⟨g, 0, none⟩) m cp), s76, (.int .i64 ((k : Int) + 1)), (.pointer (some ⟨g, (k + 1) * 33, none⟩)), s79, s80, s81, s82, s83, s84, s85, rfl, hbw, (fun h => c0 (bit_ne h (by decide))), (fun h => c1 (bit_ne h (by decide))), (fun h => c2 (bit_ne h (by decide))), (fun h => c3 (bit_ne h (by decide))), (fun h => c4 (bit_ne h (by decide))), (fun h => c5 (bit_ne h (by decide))), (fun h => c6 (bit_ne h (by decide))), (fun h => c7 (bit_ne h (by decide))), (fun _ => rfl), (fun h => c9 (bit_ne h (by decide))), (fun h => c10 (bit_ne h (by decide))), (fun h => c11 (bit_ne h (by decide))), (fun h => c12 (bit_ne h (by decide))), (fun h => c13 (bit_ne h (by decide))), (fun h => c14 (bit_ne h (by decide))), (fun h => c16 (bit_ne h (by decide))), (fun h => cw0 (bit_ne h (by decide))), (fun h h2 => cw1 (bit_ne h (by decide)) (bit_ne h2 (by decide))), (fun h => cw2 (bit_ne h (by decide)))⟩
          · obtain rfl := Option.some.inj ho
            have hsz : 9 < listed.size := by rw [hls]; decide
            have hdep8 : listed.getD 8 false = true := hall ⟨8, .data⟩ (by simp) (by rfl)
            obtain rfl := c8 hdep8
            have n15 : listed.getD 15 false = false := by
              cases hq : listed.getD 15 false with
              | false => rfl
              | true => exact absurd (hcl 15 _ rfl hq ⟨9, .data⟩ (by simp) rfl) (by rw [hi]; decide)
            have hbw := hbW
            refine inv_op rfl rfl (wp_load_mid 54 (.tmp 78) rfl g ((k + 1) * 33) rfl (ec f) _ ((cw0 n15).rng (k + 1) f hget2) Try.underlying54 rfl hif ?_)
            exact ⟨s70, s71, s72, s73, s74, s75, s76, s77, (.pointer (some ⟨g, (k + 1) * 33, none⟩)), (.agg (en f)), s80, s81, s82, s83, s84, s85, rfl, hbw, (fun h => c0 (bit_ne h (by decide))), (fun h => c1 (bit_ne h (by decide))), (fun h => c2 (bit_ne h (by decide))), (fun h => c3 (bit_ne h (by decide))), (fun h => c4 (bit_ne h (by decide))), (fun h => c5 (bit_ne h (by decide))), (fun h => c6 (bit_ne h (by decide))), (fun h => c7 (bit_ne h (by decide))), (fun h => c8 (bit_ne h (by decide))), (fun _ => rfl), (fun h => c10 (bit_ne h (by decide))), (fun h => c11 (bit_ne h (by decide))), (fun h => c12 (bit_ne h (by decide))), (fun h => c13 (bit_ne h (by decide))), (fun h => c14 (bit_ne h (by decide))), (fun h => c16 (bit_ne h (by decide))), (fun h => cw0 (bit_ne h (by decide))), (fun h h2 => cw1 (bit_ne h (by decide)) (bit_ne h2 (by decide))), (fun h => cw2 (bit_ne h (by decide)))⟩
          · obtain rfl := Option.some.inj ho
            have hsz : 10 < listed.size := by rw [hls]; decide
            have hbw := hbW
            refine inv_val (w' := w0) (.slice (some ⟨g, 0, none⟩) m cp) rfl rfl rfl ?_
            exact ⟨s70, s71, s72, s73, s74, s75, s76, s77, s78, s79, (.slice (some ⟨g, 0, none⟩) m cp), s81, s82, s83, s84, s85, rfl, hbw, (fun h => c0 (bit_ne h (by decide))), (fun h => c1 (bit_ne h (by decide))), (fun h => c2 (bit_ne h (by decide))), (fun h => c3 (bit_ne h (by decide))), (fun h => c4 (bit_ne h (by decide))), (fun h => c5 (bit_ne h (by decide))), (fun h => c6 (bit_ne h (by decide))), (fun h => c7 (bit_ne h (by decide))), (fun h => c8 (bit_ne h (by decide))), (fun h => c9 (bit_ne h (by decide))), (fun _ => rfl), (fun h => c11 (bit_ne h (by decide))), (fun h => c12 (bit_ne h (by decide))), (fun h => c13 (bit_ne h (by decide))), (fun h => c14 (bit_ne h (by decide))), (fun h => c16 (bit_ne h (by decide))), (fun h => cw0 (bit_ne h (by decide))), (fun h h2 => cw1 (bit_ne h (by decide)) (bit_ne h2 (by decide))), (fun h => cw2 (bit_ne h (by decide)))⟩
          · obtain rfl := Option.some.inj ho
            have hsz : 11 < listed.size := by rw [hls]; decide
            have hbw := hbW
            refine inv_val (w' := w0) (.int .i64 k) rfl rfl rfl ?_
            exact ⟨s70, s71, s72, s73, s74, s75, s76, s77, s78, s79, s80, (.int .i64 k), s82, s83, s84, s85, rfl, hbw, (fun h => c0 (bit_ne h (by decide))), (fun h => c1 (bit_ne h (by decide))), (fun h => c2 (bit_ne h (by decide))), (fun h => c3 (bit_ne h (by decide))), (fun h => c4 (bit_ne h (by decide))), (fun h => c5 (bit_ne h (by decide))), (fun h => c6 (bit_ne h (by decide))), (fun h => c7 (bit_ne h (by decide))), (fun h => c8 (bit_ne h (by decide))), (fun h => c9 (bit_ne h (by decide))), (fun h => c10 (bit_ne h (by decide))), (fun _ => rfl), (fun h => c12 (bit_ne h (by decide))), (fun h => c13 (bit_ne h (by decide))), (fun h => c14 (bit_ne h (by decide))), (fun h => c16 (bit_ne h (by decide))), (fun h => cw0 (bit_ne h (by decide))), (fun h h2 => cw1 (bit_ne h (by decide)) (bit_ne h2 (by decide))), (fun h => cw2 (bit_ne h (by decide)))⟩
          · obtain rfl := Option.some.inj ho
            have hsz : 12 < listed.size := by rw [hls]; decide
            have hdep10 : listed.getD 10 false = true := hall ⟨10, .data⟩ (by simp) (by rfl)
            obtain rfl := c10 hdep10
            have hdep11 : listed.getD 11 false = true := hall ⟨11, .data⟩ (by simp) (by rfl)
            obtain rfl := c11 hdep11
            have hbw := hbW
            refine inv_val (w' := w0) (.pointer (some ⟨g, k * 33, none⟩)) rfl rfl (by have hk0 : (k : Int) < m := (by omega); go_simp) ?_
            exact ⟨s70, s71, s72, s73, s74, s75, s76, s77, s78, s79, (.slice (some ⟨g, 0, none⟩) m cp), (.int .i64 k), (.pointer (some ⟨g, k * 33, none⟩)), s83, s84, s85, rfl, hbw, (fun h => c0 (bit_ne h (by decide))), (fun h => c1 (bit_ne h (by decide))), (fun h => c2 (bit_ne h (by decide))), (fun h => c3 (bit_ne h (by decide))), (fun h => c4 (bit_ne h (by decide))), (fun h => c5 (bit_ne h (by decide))), (fun h => c6 (bit_ne h (by decide))), (fun h => c7 (bit_ne h (by decide))), (fun h => c8 (bit_ne h (by decide))), (fun h => c9 (bit_ne h (by decide))), (fun h => c10 (bit_ne h (by decide))), (fun h => c11 (bit_ne h (by decide))), (fun _ => rfl), (fun h => c13 (bit_ne h (by decide))), (fun h => c14 (bit_ne h (by decide))), (fun h => c16 (bit_ne h (by decide))), (fun h => cw0 (bit_ne h (by decide))), (fun h h2 => cw1 (bit_ne h (by decide)) (bit_ne h2 (by decide))), (fun h => cw2 (bit_ne h (by decide)))⟩
          · obtain rfl := Option.some.inj ho
            have hsz : 13 < listed.size := by rw [hls]; decide
            have hdep12 : listed.getD 12 false = true := hall ⟨12, .data⟩ (by simp) (by rfl)
            obtain rfl := c12 hdep12
            have n15 : listed.getD 15 false = false := by
              cases hq : listed.getD 15 false with
              | false => rfl
              | true => exact absurd (hcl 15 _ rfl hq ⟨13, .phase⟩ (by simp) rfl) (by rw [hi]; decide)
            have hbw := hbW
            refine inv_op rfl rfl (wp_load_mid 54 (.tmp 82) rfl g (k * 33) rfl (ec e) _ ((cw0 n15).rng k e hget) Try.underlying54 rfl hie ?_)
            exact ⟨s70, s71, s72, s73, s74, s75, s76, s77, s78, s79, s80, s81, (.pointer (some ⟨g, k * 33, none⟩)), (.agg (en e)), s84, s85, rfl, hbw, (fun h => c0 (bit_ne h (by decide))), (fun h => c1 (bit_ne h (by decide))), (fun h => c2 (bit_ne h (by decide))), (fun h => c3 (bit_ne h (by decide))), (fun h => c4 (bit_ne h (by decide))), (fun h => c5 (bit_ne h (by decide))), (fun h => c6 (bit_ne h (by decide))), (fun h => c7 (bit_ne h (by decide))), (fun h => c8 (bit_ne h (by decide))), (fun h => c9 (bit_ne h (by decide))), (fun h => c10 (bit_ne h (by decide))), (fun h => c11 (bit_ne h (by decide))), (fun h => c12 (bit_ne h (by decide))), (fun _ => rfl), (fun h => c14 (bit_ne h (by decide))), (fun h => c16 (bit_ne h (by decide))), (fun h => cw0 (bit_ne h (by decide))), (fun h h2 => cw1 (bit_ne h (by decide)) (bit_ne h2 (by decide))), (fun h => cw2 (bit_ne h (by decide)))⟩
          · obtain rfl := Option.some.inj ho
            have hsz : 14 < listed.size := by rw [hls]; decide
            have hdep0 : listed.getD 0 false = true := hall ⟨0, .data⟩ (by simp) (by rfl)
            obtain rfl := c0 hdep0
            have hdep1 : listed.getD 1 false = true := hall ⟨1, .data⟩ (by simp) (by rfl)
            obtain rfl := c1 hdep1
            have hbw := hbW
            refine inv_val (w' := w0) (.pointer (some ⟨g, k * 33, none⟩)) rfl rfl (by have hk0 : (k : Int) < m := (by omega); go_simp) ?_
            exact ⟨(.slice (some ⟨g, 0, none⟩) m cp), (.int .i64 k), s72, s73, s74, s75, s76, s77, s78, s79, s80, s81, s82, s83, (.pointer (some ⟨g, k * 33, none⟩)), s85, rfl, hbw, (fun h => c0 (bit_ne h (by decide))), (fun h => c1 (bit_ne h (by decide))), (fun h => c2 (bit_ne h (by decide))), (fun h => c3 (bit_ne h (by decide))), (fun h => c4 (bit_ne h (by decide))), (fun h => c5 (bit_ne h (by decide))), (fun h => c6 (bit_ne h (by decide))), (fun h => c7 (bit_ne h (by decide))), (fun h => c8 (bit_ne h (by decide))), (fun h => c9 (bit_ne h (by decide))), (fun h => c10 (bit_ne h (by decide))), (fun h => c11 (bit_ne h (by decide))), (fun h => c12 (bit_ne h (by decide))), (fun h => c13 (bit_ne h (by decide))), (fun _ => rfl), (fun h => c16 (bit_ne h (by decide))), (fun h => cw0 (bit_ne h (by decide))), (fun h h2 => cw1 (bit_ne h (by decide)) (bit_ne h2 (by decide))), (fun h => cw2 (bit_ne h (by decide)))⟩
          · obtain rfl := Option.some.inj ho
            have hsz : 15 < listed.size := by rw [hls]; decide
            have hdep14 : listed.getD 14 false = true := hall ⟨14, .data⟩ (by simp) (by rfl)
            obtain rfl := c14 hdep14
            have hdep9 : listed.getD 9 false = true := hall ⟨9, .data⟩ (by simp) (by rfl)
            obtain rfl := c9 hdep9
            refine inv_op rfl rfl (wp_store_mid 54 (.tmp 84) (.tmp 79) rfl g (k * 33) (en f) rfl rfl (by rw [en_size hf.1]; exact (cw0 hi).here k (by omega)) hif (en_one f) ?_)
            have hbw := hbW.trans (Lib.below_setCells_w hwg (ec f) (k * 33) w0)
            exact ⟨s70, s71, s72, s73, s74, s75, s76, s77, s78, (.agg (en f)), s80, s81, s82, s83, (.pointer (some ⟨g, k * 33, none⟩)), s85, rfl, hbw, (fun h => c0 (bit_ne h (by decide))), (fun h => c1 (bit_ne h (by decide))), (fun h => c2 (bit_ne h (by decide))), (fun h => c3 (bit_ne h (by decide))), (fun h => c4 (bit_ne h (by decide))), (fun h => c5 (bit_ne h (by decide))), (fun h => c6 (bit_ne h (by decide))), (fun h => c7 (bit_ne h (by decide))), (fun h => c8 (bit_ne h (by decide))), (fun h => c9 (bit_ne h (by decide))), (fun h => c10 (bit_ne h (by decide))), (fun h => c11 (bit_ne h (by decide))), (fun h => c12 (bit_ne h (by decide))), (fun h => c13 (bit_ne h (by decide))), (fun h => c14 (bit_ne h (by decide))), (fun h => c16 (bit_ne h (by decide))), (fun h => absurd (bit_on hsz) (by rw [h]; decide)), (fun _ _ => (cw0 hi).set (by omega) hf.1 hok), (fun h => absurd (hcl 17 _ rfl (bit_ne h (by decide)) ⟨15, .chain⟩ (by simp) rfl) (by rw [hi]; decide))⟩
          · obtain rfl := Option.some.inj ho
            have hsz : 16 < listed.size := by rw [hls]; decide
            have hdep2 : listed.getD 2 false = true := hall ⟨2, .data⟩ (by simp) (by rfl)
            obtain rfl := c2 hdep2
            have hdep4 : listed.getD 4 false = true := hall ⟨4, .data⟩ (by simp) (by rfl)
            obtain rfl := c4 hdep4
            have hbw := hbW
            refine inv_val (w' := w0) (.pointer (some ⟨g, (k + 1) * 33, none⟩)) rfl rfl (by have hk0 : ¬ ((k : Int) + 1 < 0) := (by omega); go_simp) ?_
            exact ⟨s70, s71, (.slice (some ⟨g, 0, none⟩) m cp), s73, (.int .i64 ((k : Int) + 1)), s75, s76, s77, s78, s79, s80, s81, s82, s83, s84, (.pointer (some ⟨g, (k + 1) * 33, none⟩)), rfl, hbw, (fun h => c0 (bit_ne h (by decide))), (fun h => c1 (bit_ne h (by decide))), (fun h => c2 (bit_ne h (by decide))), (fun h => c3 (bit_ne h (by decide))), (fun h => c4 (bit_ne h (by decide))), (fun h => c5 (bit_ne h (by decide))), (fun h => c6 (bit_ne h (by decide))), (fun h => c7 (bit_ne h (by decide))), (fun h => c8 (bit_ne h (by decide))), (fun h => c9 (bit_ne h (by decide))), (fun h => c10 (bit_ne h (by decide))), (fun h => c11 (bit_ne h (by decide))), (fun h => c12 (bit_ne h (by decide))), (fun h => c13 (bit_ne h (by decide))), (fun h => c14 (bit_ne h (by decide))), (fun _ => rfl), (fun h => cw0 (bit_ne h (by decide))), (fun h h2 => cw1 (bit_ne h (by decide)) (bit_ne h2 (by decide))), (fun h => cw2 (bit_ne h (by decide)))⟩
          · obtain rfl := Option.some.inj ho
            have hsz : 17 < listed.size := by rw [hls]; decide
            have hdep16 : listed.getD 16 false = true := hall ⟨16, .data⟩ (by simp) (by rfl)
            obtain rfl := c16 hdep16
            have hdep13 : listed.getD 13 false = true := hall ⟨13, .data⟩ (by simp) (by rfl)
            obtain rfl := c13 hdep13
            have hdep15 : listed.getD 15 false = true := hall ⟨15, .chain⟩ (by simp) (by rfl)
            refine inv_op rfl rfl (wp_store_mid 54 (.tmp 85) (.tmp 83) rfl g ((k + 1) * 33) (en e) rfl rfl (by rw [en_size he.1]; exact (cw1 hdep15 hi).here (k + 1) (by simp; omega)) hie (en_one e) ?_)
            have hbw := hbW.trans (Lib.below_setCells_w hwg (ec e) ((k + 1) * 33) w0)
            exact ⟨s70, s71, s72, s73, s74, s75, s76, s77, s78, s79, s80, s81, s82, (.agg (en e)), s84, (.pointer (some ⟨g, (k + 1) * 33, none⟩)), rfl, hbw, (fun h => c0 (bit_ne h (by decide))), (fun h => c1 (bit_ne h (by decide))), (fun h => c2 (bit_ne h (by decide))), (fun h => c3 (bit_ne h (by decide))), (fun h => c4 (bit_ne h (by decide))), (fun h => c5 (bit_ne h (by decide))), (fun h => c6 (bit_ne h (by decide))), (fun h => c7 (bit_ne h (by decide))), (fun h => c8 (bit_ne h (by decide))), (fun h => c9 (bit_ne h (by decide))), (fun h => c10 (bit_ne h (by decide))), (fun h => c11 (bit_ne h (by decide))), (fun h => c12 (bit_ne h (by decide))), (fun h => c13 (bit_ne h (by decide))), (fun h => c14 (bit_ne h (by decide))), (fun h => c16 (bit_ne h (by decide))), (fun h => absurd hdep15 (by rw [bit_ne h (by decide)]; decide)), (fun _ h2 => absurd (bit_on hsz) (by rw [h2]; decide)), (fun _ => (cw1 hdep15 hi).set (by simp; omega) he.1 hok1)⟩
        · intro listed a w0 hall hJ
          obtain ⟨s70, s71, s72, s73, s74, s75, s76, s77, s78, s79, s80, s81, s82, s83, s84, s85, rfl, hbW, c0, c1, c2, c3, c4, c5, c6, c7, c8, c9, c10, c11, c12, c13, c14, c16, cw0, cw1, cw2⟩ := hJ
          obtain rfl := c0 (hall 0 (by decide))
          obtain rfl := c1 (hall 1 (by decide))
          obtain rfl := c2 (hall 2 (by decide))
          obtain rfl := c3 (hall 3 (by decide))
          obtain rfl := c4 (hall 4 (by decide))
          obtain rfl := c5 (hall 5 (by decide))
          obtain rfl := c6 (hall 6 (by decide))
          obtain rfl := c7 (hall 7 (by decide))
          obtain rfl := c8 (hall 8 (by decide))
          obtain rfl := c9 (hall 9 (by decide))
          obtain rfl := c10 (hall 10 (by decide))
          obtain rfl := c11 (hall 11 (by decide))
          obtain rfl := c12 (hall 12 (by decide))
          obtain rfl := c13 (hall 13 (by decide))
          obtain rfl := c14 (hall 14 (by decide))
          obtain rfl := c16 (hall 16 (by decide))
          have ea5 := cw2 (hall 17 (by decide))
          have b5 := b1.trans hbW
          clear hall hbW cw0 cw1 cw2
          have hri5 := rise_swap hri hget hget2
          have hg5 : ∀ x ∈ (E.set k f).set (k + 1) e, GoodE x := fun x hx => by
            rcases List.mem_or_eq_of_mem_set hx with h | h
            · rcases List.mem_or_eq_of_mem_set h with h | h
              · exact hg x h
              · subst h; exact hg _ (List.mem_of_getElem? hget2)
            · subst h; exact hg _ (List.mem_of_getElem? hget)
          have hch5 := chkE_one (nmE_good hg5) hri5
          have hl5 : ((E.set k f).set (k + 1) e).length = m := by simp [hEl]
          have hn5 : ∀ x ∈ (E.set k f).set (k + 1) e, x.node = zer 32 ∧ x.name.size ≤ 49 := fun x hx => ⟨(hg5 x hx).2.2, (hg5 x hx).2.1⟩
          clear hri5 hg5
          generalize (E.set k f).set (k + 1) e = E5 at *
          generalize w0 = w5 at *
          clear hea hget hget2 hr1 hr2 ht1 ht2 he hf hie hif c1 f1 hnm0 hw1 hw2 hg hri hok hwg b1 hEl hkm hkmi hk
          have hok5 : EntsOk E5 := fun x hx => by
            obtain ⟨h2, h3⟩ := hn5 x hx
            refine ⟨by rw [h2]; rfl, fun y hy => ?_, by omega⟩
            rw [h2] at hy; simp [zer] at hy; omega
          have hnd5 : ∀ x ∈ E5, x.node.length = 32 := fun x hx => (hok5 x hx).1
          have hpd := pD_enc hnd5
          have hde : dErr (encD E5) = 1 := by rw [dErr, hpd]; exact hch5
          have hdo : dOut (encD E5) = [] := by rw [dOut, hpd]; simp only [hch5]; rfl
          go_wp2
          go_loopw [12, 13] (fun rv iv wr => ∃ (i : Nat) (sp : Option Addr) (n8 cw : Nat), rv = .slice sp n8 cw ∧ iv = .int .i64 i ∧ i ≤ m ∧ Own8 wr w5.heap.size 5 (.slice sp n8 cw) (encD (E5.take i)) ∧ (encD (E5.take i)).length = n8 ∧ n8 ≤ i * 82 ∧ Below w5.heap.size w5 wr) (fun _ iv _ => m - (intOf iv).toNat)
          case atStart => exact ⟨0, none, 0, 0, rfl, rfl, by omega, own8_none _ _, rfl, by omega, Below.refl _ _⟩
          case round =>
            obtain ⟨i, sp, n8, cw, rfl, rfl, hi, ow, hln, hsz, b6⟩ := hrel
            by_cases him : i < m
            · obtain ⟨x, hgx⟩ : ∃ x, E5[i]? = some x := ⟨_, List.getElem?_eq_getElem (by omega)⟩
              obtain ⟨hnd, hns⟩ := hn5 x (List.mem_of_getElem? hgx)
              obtain ⟨B, hB⟩ : ∃ B, B = w5.heap.size := ⟨_, rfl⟩
              have hrx := ea5.rng i x hgx
              have hc : ∀ wy, Below B wr wy → wy.cell? ⟨g, i * 33, none⟩ = some (.string x.name) := fun wy h => range0 (rangeAt_below hrx (b6.trans (by rw [← hB]; exact h)) (Nat.le_refl _))
              have hsB : ∀ {wy : World}, Below B wr wy → B ≤ wy.heap.size := fun h => by have := h.size; have := b6.size; omega
              have htk : encD (E5.take (i + 1)) = encD (E5.take i) ++ [(x.name.size : Int)] ++ bNum x.name ++ List.replicate 32 0 := by
                rw [List.take_add_one, hgx]; simp [encD, encE, hnd, zer]
              rw [← hB] at ow
              have him' : (i : Int) < m := by omega
              have hc0 := hc wr (Below.refl _ _)
              clear hrx ea5 hok5 hnd5 hpd hde hdo hgx hn5 hnd
              go_upto_region 29 with fail
              generalize encD (E5.take i) = L0 at *
              generalize x.name = sx at *
              have hsx : 0 ≤ (sx.size : Int) ∧ (sx.size : Int) ≤ 49 := by omega
              have hX1 : (L0 ++ [(sx.size : Int)]).length = n8 + 1 := by simp [hln]
              have hX2 : (L0 ++ [(sx.size : Int)] ++ bNum sx).length = n8 + 1 + sx.size := by simp [hln, bNum_len]; omega
              have hX3 : (L0 ++ [(sx.size : Int)] ++ bNum sx ++ List.replicate 32 0).length = n8 + 1 + sx.size + 32 := by simp [hln, bNum_len]; omega
              refine region_invFA  (by kernel_rfl) (by kernel_rfl) (fun a0 listed a w => ∃ s12 s114 s115 s116 s117 s118 s119 s120 s121 s122 s123 s124 s125 s126 s127 s128 s129 s130, a = (Act.put (Act.put (Act.put (Act.put (Act.put (Act.put (Act.put (Act.put (Act.put (Act.put (Act.put (Act.put (Act.put (Act.put (Act.put (Act.put (Act.put (Act.put a0 (some 12) s12) (some 114) s114) (some 115) s115) (some 116) s116) (some 117) s117) (some 118) s118) (some 119) s119) (some 120) s120) (some 121) s121) (some 122) s122) (some 123) s123) (some 124) s124) (some 125) s125) (some 126) s126) (some 127) s127) (some 128) s128) (some 129) s129) (some 130) s130) ∧ Below B wr w ∧ (listed.getD 9 false = false → Own8 w B 5 (.slice sp n8 cw) L0) ∧ (listed.getD 17 false = false → s12 = .slice sp n8 cw) ∧ (listed.getD 0 false = true → listed.getD 9 false = false → OwnS w B s114 n8 L0) ∧ (listed.getD 1 false = true → s115 = .slice (some ⟨g, 0, none⟩) m cp) ∧ (listed.getD 2 false = true → s116 = .int .i64 i) ∧ (listed.getD 3 false = true → s117 = .pointer (some ⟨g, i * 33, none⟩)) ∧ (listed.getD 4 false = true → s118 = .pointer (some ⟨g, i * 33, none⟩)) ∧ (listed.getD 5 false = true → s119 = .string sx) ∧ (listed.getD 6 false = true → s120 = .int .i64 (sx.size : Int)) ∧ (listed.getD 7 false = true → s121 = .int .u8 (sx.size : Int)) ∧ (listed.getD 8 false = true → listed.getD 9 false = false → LitS w B s122 1 [(sx.size : Int)]) ∧ (listed.getD 9 false = true → listed.getD 15 false = false → OwnS w B s123 (n8 + 1) (L0 ++ [(sx.size : Int)])) ∧ (listed.getD 10 false = true → s124 = .slice (some ⟨g, 0, none⟩) m cp) ∧ (listed.getD 11 false = true → s125 = .int .i64 i) ∧ (listed.getD 12 false = true → s126 = .pointer (some ⟨g, i * 33, none⟩)) ∧ (listed.getD 13 false = true → s127 = .pointer (some ⟨g, i * 33, none⟩)) ∧ (listed.getD 14 false = true → s128 = .string sx) ∧ (listed.getD 15 false = true → listed.getD 16 false = false → OwnS w B s129 (n8 + 1 + sx.size) (L0 ++ [(sx.size : Int)] ++ bNum sx)) ∧ (listed.getD 16 false = true → listed.getD 17 false = false → OwnS w B s130 (n8 + 1 + sx.size + 32) (L0 ++ [(sx.size : Int)] ++ bNum sx ++ List.replicate 32 0)) ∧ (listed.getD 17 false = true → OwnS w B s12 (n8 + 1 + sx.size + 32) (L0 ++ [(sx.size : Int)] ++ bNum sx ++ List.replicate 32 0))) ?_ ?_ ?_
              all_goals simp only [Act.put, List.setIfInBounds_toArray, List.set_cons_succ, List.set_cons_zero]
              · exact ⟨_, _, _, _, _, _, _, _, _, _, _, _, _, _, _, _, _, _, rfl, (Below.refl B _).drew, (fun _ => ow.drew1), (fun _ => rfl), (fun h => absurd h (by rw [getD_replicate_false]; decide)), (fun h => absurd h (by rw [getD_replicate_false]; decide)), (fun h => absurd h (by rw [getD_replicate_false]; decide)), (fun h => absurd h (by rw [getD_replicate_false]; decide)), (fun h => absurd h (by rw [getD_replicate_false]; decide)), (fun h => absurd h (by rw [getD_replicate_false]; decide)), (fun h => absurd h (by rw [getD_replicate_false]; decide)), (fun h => absurd h (by rw [getD_replicate_false]; decide)), (fun h => absurd h (by rw [getD_replicate_false]; decide)), (fun h => absurd h (by rw [getD_replicate_false]; decide)), (fun h => absurd h (by rw [getD_replicate_false]; decide)), (fun h => absurd h (by rw [getD_replicate_false]; decide)), (fun h => absurd h (by rw [getD_replicate_false]; decide)), (fun h => absurd h (by rw [getD_replicate_false]; decide)), (fun h => absurd h (by rw [getD_replicate_false]; decide)), (fun h => absurd h (by rw [getD_replicate_false]; decide)), (fun h => absurd h (by rw [getD_replicate_false]; decide)), (fun h => absurd h (by rw [getD_replicate_false]; decide))⟩
              · intro listed a w i o hls hJ hin ho hi hall hcl
                obtain ⟨s12, s114, s115, s116, s117, s118, s119, s120, s121, s122, s123, s124, s125, s126, s127, s128, s129, s130, rfl, hbW, cx, cy, c0, c1, c2, c3, c4, c5, c6, c7, c8, c9, c10, c11, c12, c13, c14, c15, c16, c17⟩ := hJ
                replace hin : i < 18 := hin
                rcases (by omega : i = 0 ∨ i = 1 ∨ i = 2 ∨ i = 3 ∨ i = 4 ∨ i = 5 ∨ i = 6 ∨ i = 7 ∨ i = 8 ∨ i = 9 ∨ i = 10 ∨ i = 11 ∨ i = 12 ∨ i = 13 ∨ i = 14 ∨ i = 15 ∨ i = 16 ∨ i = 17) with rfl | rfl | rfl | rfl | rfl | rfl | rfl | rfl | rfl | rfl | rfl | rfl | rfl | rfl | rfl | rfl | rfl | rfl
                · obtain rfl := Option.some.inj ho
                  have hsz : 0 < listed.size := by rw [hls]; decide
                  have hbw := hbW
                  have nU : listed.getD 17 false = false := by
                    cases hq : listed.getD 17 false with
                    | false => rfl
                    | true => exact absurd (hcl 9 _ rfl (hcl 15 _ rfl (hcl 16 _ rfl (hcl 17 _ rfl hq ⟨16, .data⟩ (by simp) rfl) ⟨15, .data⟩ (by simp) rfl) ⟨9, .data⟩ (by simp) rfl) ⟨0, .data⟩ (by simp) rfl) (by rw [hi]; decide)
                  obtain rfl := cy nU
                  refine inv_val (w' := w) (.slice sp n8 cw) rfl rfl rfl ?_
                  exact ⟨(.slice sp n8 cw), (.slice sp n8 cw), s115, s116, s117, s118, s119, s120, s121, s122, s123, s124, s125, s126, s127, s128, s129, s130, rfl, hbw, (fun h2 => cx (bit_ne h2 (by decide))), (fun _ => rfl), (fun _ h2 => ⟨sp, cw, rfl, cx (by first | exact bit_ne h2 (by decide) | exact h2)⟩), (fun h => c1 (bit_ne h (by decide))), (fun h => c2 (bit_ne h (by decide))), (fun h => c3 (bit_ne h (by decide))), (fun h => c4 (bit_ne h (by decide))), (fun h => c5 (bit_ne h (by decide))), (fun h => c6 (bit_ne h (by decide))), (fun h => c7 (bit_ne h (by decide))), (fun h h2 => c8 (bit_ne h (by decide)) (bit_ne h2 (by decide))), (fun h h2 => c9 (bit_ne h (by decide)) (bit_ne h2 (by decide))), (fun h => c10 (bit_ne h (by decide))), (fun h => c11 (bit_ne h (by decide))), (fun h => c12 (bit_ne h (by decide))), (fun h => c13 (bit_ne h (by decide))), (fun h => c14 (bit_ne h (by decide))), (fun h h2 => c15 (bit_ne h (by decide)) (bit_ne h2 (by decide))), (fun h h2 => c16 (bit_ne h (by decide)) (bit_ne h2 (by decide))), (fun h => c17 (bit_ne h (by decide)))⟩
                · obtain rfl := Option.some.inj ho
                  have hsz : 1 < listed.size := by rw [hls]; decide
                  have hbw := hbW
                  refine inv_val (w' := w) (.slice (some ⟨g, 0, none⟩) m cp) rfl rfl rfl ?_
                  exact ⟨s12, s114, (.slice (some ⟨g, 0, none⟩) m cp), s116, s117, s118, s119, s120, s121, s122, s123, s124, s125, s126, s127, s128, s129, s130, rfl, hbw, (fun h2 => cx (bit_ne h2 (by decide))), (fun h2 => cy (bit_ne h2 (by decide))), (fun h h2 => c0 (bit_ne h (by decide)) (bit_ne h2 (by decide))), (fun _ => rfl), (fun h => c2 (bit_ne h (by decide))), (fun h => c3 (bit_ne h (by decide))), (fun h => c4 (bit_ne h (by decide))), (fun h => c5 (bit_ne h (by decide))), (fun h => c6 (bit_ne h (by decide))), (fun h => c7 (bit_ne h (by decide))), (fun h h2 => c8 (bit_ne h (by decide)) (bit_ne h2 (by decide))), (fun h h2 => c9 (bit_ne h (by decide)) (bit_ne h2 (by decide))), (fun h => c10 (bit_ne h (by decide))), (fun h => c11 (bit_ne h (by decide))), (fun h => c12 (bit_ne h (by decide))), (fun h => c13 (bit_ne h (by decide))), (fun h => c14 (bit_ne h (by decide))), (fun h h2 => c15 (bit_ne h (by decide)) (bit_ne h2 (by decide))), (fun h h2 => c16 (bit_ne h (by decide)) (bit_ne h2 (by decide))), (fun h => c17 (bit_ne h (by decide)))⟩
                · obtain rfl := Option.some.inj ho
                  have hsz : 2 < listed.size := by rw [hls]; decide
                  have hbw := hbW
                  refine inv_val (w' := w) (.int .i64 i) rfl rfl rfl ?_
                  exact ⟨s12, s114, s115, (.int .i64 i), s117, s118, s119, s120, s121, s122, s123, s124, s125, s126, s127, s128, s129, s130, rfl, hbw, (fun h2 => cx (bit_ne h2 (by decide))), (fun h2 => cy (bit_ne h2 (by decide))), (fun h h2 => c0 (bit_ne h (by decide)) (bit_ne h2 (by decide))), (fun h => c1 (bit_ne h (by decide))), (fun _ => rfl), (fun h => c3 (bit_ne h (by decide))), (fun h => c4 (bit_ne h (by decide))), (fun h => c5 (bit_ne h (by decide))), (fun h => c6 (bit_ne h (by decide))), (fun h => c7 (bit_ne h (by decide))), (fun h h2 => c8 (bit_ne h (by decide)) (bit_ne h2 (by decide))), (fun h h2 => c9 (bit_ne h (by decide)) (bit_ne h2 (by decide))), (fun h => c10 (bit_ne h (by decide))), (fun h => c11 (bit_ne h (by decide))), (fun h => c12 (bit_ne h (by decide))), (fun h => c13 (bit_ne h (by decide))), (fun h => c14 (bit_ne h (by decide))), (fun h h2 => c15 (bit_ne h (by decide)) (bit_ne h2 (by decide))), (fun h h2 => c16 (bit_ne h (by decide)) (bit_ne h2 (by decide))), (fun h => c17 (bit_ne h (by decide)))⟩
                · obtain rfl := Option.some.inj ho
                  have hsz : 3 < listed.size := by rw [hls]; decide
                  have hdep1 : listed.getD 1 false = true := hall ⟨1, .data⟩ (by simp) (by rfl)
                  obtain rfl := c1 hdep1
                  have hdep2 : listed.getD 2 false = true := hall ⟨2, .data⟩ (by simp) (by rfl)
                  obtain rfl := c2 hdep2
                  have hbw := hbW
                  refine inv_val (w' := w) (.pointer (some ⟨g, i * 33, none⟩)) rfl rfl (by go_simp) ?_
                  exact ⟨s12, s114, (.slice (some ⟨g, 0, none⟩) m cp), (.int .i64 i), (.pointer (some ⟨g, i * 33, none⟩)), s118, s119, s120, s121, s122, s123, s124, s125, s126, s127, s128, s129, s130, rfl, hbw, (fun h2 => cx (bit_ne h2 (by decide))), (fun h2 => cy (bit_ne h2 (by decide))), (fun h h2 => c0 (bit_ne h (by decide)) (bit_ne h2 (by decide))), (fun h => c1 (bit_ne h (by decide))), (fun h => c2 (bit_ne h (by decide))), (fun _ => rfl), (fun h => c4 (bit_ne h (by decide))), (fun h => c5 (bit_ne h (by decide))), (fun h => c6 (bit_ne h (by decide))), (fun h => c7 (bit_ne h (by decide))), (fun h h2 => c8 (bit_ne h (by decide)) (bit_ne h2 (by decide))), (fun h h2 => c9 (bit_ne h (by decide)) (bit_ne h2 (by decide))), (fun h => c10 (bit_ne h (by decide))), (fun h => c11 (bit_ne h (by decide))), (fun h => c12 (bit_ne h (by decide))), (fun h => c13 (bit_ne h (by decide))), (fun h => c14 (bit_ne h (by decide))), (fun h h2 => c15 (bit_ne h (by decide)) (bit_ne h2 (by decide))), (fun h h2 => c16 (bit_ne h (by decide)) (bit_ne h2 (by decide))), (fun h => c17 (bit_ne h (by decide)))⟩
                · obtain rfl := Option.some.inj ho
                  have hsz : 4 < listed.size := by rw [hls]; decide
                  have hdep3 : listed.getD 3 false = true := hall ⟨3, .data⟩ (by simp) (by rfl)
                  obtain rfl := c3 hdep3
                  have hbw := hbW
                  refine inv_val (w' := w) (.pointer (some ⟨g, i * 33, none⟩)) rfl rfl (by go_simp) ?_
                  exact ⟨s12, s114, s115, s116, (.pointer (some ⟨g, i * 33, none⟩)), (.pointer (some ⟨g, i * 33, none⟩)), s119, s120, s121, s122, s123, s124, s125, s126, s127, s128, s129, s130, rfl, hbw, (fun h2 => cx (bit_ne h2 (by decide))), (fun h2 => cy (bit_ne h2 (by decide))), (fun h h2 => c0 (bit_ne h (by decide)) (bit_ne h2 (by decide))), (fun h => c1 (bit_ne h (by decide))), (fun h => c2 (bit_ne h (by decide))), (fun h => c3 (bit_ne h (by decide))), (fun _ => rfl), (fun h => c5 (bit_ne h (by decide))), (fun h => c6 (bit_ne h (by decide))), (fun h => c7 (bit_ne h (by decide))), (fun h h2 => c8 (bit_ne h (by decide)) (bit_ne h2 (by decide))), (fun h h2 => c9 (bit_ne h (by decide)) (bit_ne h2 (by decide))), (fun h => c10 (bit_ne h (by decide))), (fun h => c11 (bit_ne h (by decide))), (fun h => c12 (bit_ne h (by decide))), (fun h => c13 (bit_ne h (by decide))), (fun h => c14 (bit_ne h (by decide))), (fun h h2 => c15 (bit_ne h (by decide)) (bit_ne h2 (by decide))), (fun h h2 => c16 (bit_ne h (by decide)) (bit_ne h2 (by decide))), (fun h => c17 (bit_ne h (by decide)))⟩
                · obtain rfl := Option.some.inj ho
                  have hsz : 5 < listed.size := by rw [hls]; decide
                  have hdep4 : listed.getD 4 false = true := hall ⟨4, .data⟩ (by simp) (by rfl)
                  obtain rfl := c4 hdep4
                  have hbw := hbW
                  refine inv_val (w' := w) (.string sx) rfl rfl (by have hq := hc w hbW; go_simp) ?_
                  exact ⟨s12, s114, s115, s116, s117, (.pointer (some ⟨g, i * 33, none⟩)), (.string sx), s120, s121, s122, s123, s124, s125, s126, s127, s128, s129, s130, rfl, hbw, (fun h2 => cx (bit_ne h2 (by decide))), (fun h2 => cy (bit_ne h2 (by decide))), (fun h h2 => c0 (bit_ne h (by decide)) (bit_ne h2 (by decide))), (fun h => c1 (bit_ne h (by decide))), (fun h => c2 (bit_ne h (by decide))), (fun h => c3 (bit_ne h (by decide))), (fun h => c4 (bit_ne h (by decide))), (fun _ => rfl), (fun h => c6 (bit_ne h (by decide))), (fun h => c7 (bit_ne h (by decide))), (fun h h2 => c8 (bit_ne h (by decide)) (bit_ne h2 (by decide))), (fun h h2 => c9 (bit_ne h (by decide)) (bit_ne h2 (by decide))), (fun h => c10 (bit_ne h (by decide))), (fun h => c11 (bit_ne h (by decide))), (fun h => c12 (bit_ne h (by decide))), (fun h => c13 (bit_ne h (by decide))), (fun h => c14 (bit_ne h (by decide))), (fun h h2 => c15 (bit_ne h (by decide)) (bit_ne h2 (by decide))), (fun h h2 => c16 (bit_ne h (by decide)) (bit_ne h2 (by decide))), (fun h => c17 (bit_ne h (by decide)))⟩
                · obtain rfl := Option.some.inj ho
                  have hsz : 6 < listed.size := by rw [hls]; decide
                  have hdep5 : listed.getD 5 false = true := hall ⟨5, .data⟩ (by simp) (by rfl)
                  obtain rfl := c5 hdep5
                  have hbw := hbW
                  refine inv_val (w' := w) (.int .i64 (sx.size : Int)) rfl rfl (by go_simp) ?_
                  exact ⟨s12, s114, s115, s116, s117, s118, (.string sx), (.int .i64 (sx.size : Int)), s121, s122, s123, s124, s125, s126, s127, s128, s129, s130, rfl, hbw, (fun h2 => cx (bit_ne h2 (by decide))), (fun h2 => cy (bit_ne h2 (by decide))), (fun h h2 => c0 (bit_ne h (by decide)) (bit_ne h2 (by decide))), (fun h => c1 (bit_ne h (by decide))), (fun h => c2 (bit_ne h (by decide))), (fun h => c3 (bit_ne h (by decide))), (fun h => c4 (bit_ne h (by decide))), (fun h => c5 (bit_ne h (by decide))), (fun _ => rfl), (fun h => c7 (bit_ne h (by decide))), (fun h h2 => c8 (bit_ne h (by decide)) (bit_ne h2 (by decide))), (fun h h2 => c9 (bit_ne h (by decide)) (bit_ne h2 (by decide))), (fun h => c10 (bit_ne h (by decide))), (fun h => c11 (bit_ne h (by decide))), (fun h => c12 (bit_ne h (by decide))), (fun h => c13 (bit_ne h (by decide))), (fun h => c14 (bit_ne h (by decide))), (fun h h2 => c15 (bit_ne h (by decide)) (bit_ne h2 (by decide))), (fun h h2 => c16 (bit_ne h (by decide)) (bit_ne h2 (by decide))), (fun h => c17 (bit_ne h (by decide)))⟩
                · obtain rfl := Option.some.inj ho
                  have hsz : 7 < listed.size := by rw [hls]; decide
                  have hdep6 : listed.getD 6 false = true := hall ⟨6, .data⟩ (by simp) (by rfl)
                  obtain rfl := c6 hdep6
                  have hbw := hbW
                  refine inv_val (w' := w) (.int .u8 (sx.size : Int)) rfl rfl (by go_simp; exact wrap88 hsx) ?_
                  exact ⟨s12, s114, s115, s116, s117, s118, s119, (.int .i64 (sx.size : Int)), (.int .u8 (sx.size : Int)), s122, s123, s124, s125, s126, s127, s128, s129, s130, rfl, hbw, (fun h2 => cx (bit_ne h2 (by decide))), (fun h2 => cy (bit_ne h2 (by decide))), (fun h h2 => c0 (bit_ne h (by decide)) (bit_ne h2 (by decide))), (fun h => c1 (bit_ne h (by decide))), (fun h => c2 (bit_ne h (by decide))), (fun h => c3 (bit_ne h (by decide))), (fun h => c4 (bit_ne h (by decide))), (fun h => c5 (bit_ne h (by decide))), (fun h => c6 (bit_ne h (by decide))), (fun _ => rfl), (fun h h2 => c8 (bit_ne h (by decide)) (bit_ne h2 (by decide))), (fun h h2 => c9 (bit_ne h (by decide)) (bit_ne h2 (by decide))), (fun h => c10 (bit_ne h (by decide))), (fun h => c11 (bit_ne h (by decide))), (fun h => c12 (bit_ne h (by decide))), (fun h => c13 (bit_ne h (by decide))), (fun h => c14 (bit_ne h (by decide))), (fun h h2 => c15 (bit_ne h (by decide)) (bit_ne h2 (by decide))), (fun h h2 => c16 (bit_ne h (by decide)) (bit_ne h2 (by decide))), (fun h => c17 (bit_ne h (by decide)))⟩
                · obtain rfl := Option.some.inj ho
                  have hsz : 8 < listed.size := by rw [hls]; decide
                  have hdep7 : listed.getD 7 false = true := hall ⟨7, .data⟩ (by simp) (by rfl)
                  obtain rfl := c7 hdep7
                  have hbw : Below B wr (w.alloc (.cells (v8 [(sx.size : Int)]) 5)) := hbW.alloc (hsB hbW) _
                  refine inv_val (.slice (some ⟨w.heap.size, 0, none⟩) 1 1) (w' := w.alloc (.cells (v8 [(sx.size : Int)]) 5)) rfl rfl (by kernel_rfl) ?_
                  exact ⟨s12, s114, s115, s116, s117, s118, s119, s120, (.int .u8 (sx.size : Int)), (.slice (some ⟨w.heap.size, 0, none⟩) 1 1), s123, s124, s125, s126, s127, s128, s129, s130, rfl, hbw, (fun h2 => (cx (bit_ne h2 (by decide))).alloc _), (fun h2 => cy (bit_ne h2 (by decide))), (fun h h2 => (c0 (bit_ne h (by decide)) (bit_ne h2 (by decide))).alloc _), (fun h => c1 (bit_ne h (by decide))), (fun h => c2 (bit_ne h (by decide))), (fun h => c3 (bit_ne h (by decide))), (fun h => c4 (bit_ne h (by decide))), (fun h => c5 (bit_ne h (by decide))), (fun h => c6 (bit_ne h (by decide))), (fun h => c7 (bit_ne h (by decide))), (fun _ _ => LitS.new w B (hsB hbW) 1 [(sx.size : Int)] (by rfl)), (fun h h2 => (c9 (bit_ne h (by decide)) (bit_ne h2 (by decide))).alloc _), (fun h => c10 (bit_ne h (by decide))), (fun h => c11 (bit_ne h (by decide))), (fun h => c12 (bit_ne h (by decide))), (fun h => c13 (bit_ne h (by decide))), (fun h => c14 (bit_ne h (by decide))), (fun h h2 => (c15 (bit_ne h (by decide)) (bit_ne h2 (by decide))).alloc _), (fun h h2 => (c16 (bit_ne h (by decide)) (bit_ne h2 (by decide))).alloc _), (fun h => (c17 (bit_ne h (by decide))).alloc _)⟩
                · obtain rfl := Option.some.inj ho
                  have hsz : 9 < listed.size := by rw [hls]; decide
                  have hdep0 : listed.getD 0 false = true := hall ⟨0, .data⟩ (by simp) (by rfl)
                  obtain ⟨sp0, cap0, rfl, o0⟩ := c0 hdep0 hi
                  have hdep8 : listed.getD 8 false = true := hall ⟨8, .data⟩ (by simp) (by rfl)
                  obtain ⟨b8, rfl, r8, hb8⟩ := c8 hdep8 hi
                  refine inv_op rfl rfl (wp8g (.tmp 114) (.tmp 122) 27 5 rfl B Try.underlying27 info5 _ L0 rfl o0 (some ⟨b8, 0, none⟩) 1 1 [(sx.size : Int)] rfl rfl (fun h => by cases h) r8.bytes (by first | omega | simp | (simp; omega)) (hsB hbW) ?_)
                  intro sp cap w' ow hb' hgg
                  have hg := Grew.of hgg
                  have hbw : Below B wr w' := hbW.trans hb'
                  have hown := o0
                  rw [hX1] at ow ⊢
                  exact ⟨s12, (.slice sp0 n8 cap0), s115, s116, s117, s118, s119, s120, s121, (.slice (some ⟨b8, 0, none⟩) 1 1), (.slice sp (n8 + 1) cap), s124, s125, s126, s127, s128, s129, s130, rfl, hbw, (fun h2 => absurd (bit_on hsz) (by rw [h2]; decide)), (fun h2 => cy (bit_ne h2 (by decide))), (fun _ h2 => absurd (bit_on hsz) (by rw [h2]; decide)), (fun h => c1 (bit_ne h (by decide))), (fun h => c2 (bit_ne h (by decide))), (fun h => c3 (bit_ne h (by decide))), (fun h => c4 (bit_ne h (by decide))), (fun h => c5 (bit_ne h (by decide))), (fun h => c6 (bit_ne h (by decide))), (fun h => c7 (bit_ne h (by decide))), (fun _ h2 => absurd (bit_on hsz) (by rw [h2]; decide)), (fun _ _ => ⟨sp, cap, rfl, ow⟩), (fun h => c10 (bit_ne h (by decide))), (fun h => c11 (bit_ne h (by decide))), (fun h => c12 (bit_ne h (by decide))), (fun h => c13 (bit_ne h (by decide))), (fun h => c14 (bit_ne h (by decide))), (fun h _ => absurd (hcl 15 _ rfl (bit_ne h (by decide)) ⟨9, .data⟩ (by simp) rfl) (by rw [hi]; decide)), (fun h _ => absurd (hcl 15 _ rfl (hcl 16 _ rfl (bit_ne h (by decide)) ⟨15, .data⟩ (by simp) rfl) ⟨9, .data⟩ (by simp) rfl) (by rw [hi]; decide)), (fun h => absurd (hcl 15 _ rfl (hcl 16 _ rfl (hcl 17 _ rfl (bit_ne h (by decide)) ⟨16, .data⟩ (by simp) rfl) ⟨15, .data⟩ (by simp) rfl) ⟨9, .data⟩ (by simp) rfl) (by rw [hi]; decide))⟩
                · obtain rfl := Option.some.inj ho
                  have hsz : 10 < listed.size := by rw [hls]; decide
                  have hbw := hbW
                  refine inv_val (w' := w) (.slice (some ⟨g, 0, none⟩) m cp) rfl rfl rfl ?_
                  exact ⟨s12, s114, s115, s116, s117, s118, s119, s120, s121, s122, s123, (.slice (some ⟨g, 0, none⟩) m cp), s125, s126, s127, s128, s129, s130, rfl, hbw, (fun h2 => cx (bit_ne h2 (by decide))), (fun h2 => cy (bit_ne h2 (by decide))), (fun h h2 => c0 (bit_ne h (by decide)) (bit_ne h2 (by decide))), (fun h => c1 (bit_ne h (by decide))), (fun h => c2 (bit_ne h (by decide))), (fun h => c3 (bit_ne h (by decide))), (fun h => c4 (bit_ne h (by decide))), (fun h => c5 (bit_ne h (by decide))), (fun h => c6 (bit_ne h (by decide))), (fun h => c7 (bit_ne h (by decide))), (fun h h2 => c8 (bit_ne h (by decide)) (bit_ne h2 (by decide))), (fun h h2 => c9 (bit_ne h (by decide)) (bit_ne h2 (by decide))), (fun _ => rfl), (fun h => c11 (bit_ne h (by decide))), (fun h => c12 (bit_ne h (by decide))), (fun h => c13 (bit_ne h (by decide))), (fun h => c14 (bit_ne h (by decide))), (fun h h2 => c15 (bit_ne h (by decide)) (bit_ne h2 (by decide))), (fun h h2 => c16 (bit_ne h (by decide)) (bit_ne h2 (by decide))), (fun h => c17 (bit_ne h (by decide)))⟩
                · obtain rfl := Option.some.inj ho
                  have hsz : 11 < listed.size := by rw [hls]; decide
                  have hbw := hbW
                  refine inv_val (w' := w) (.int .i64 i) rfl rfl rfl ?_
                  exact ⟨s12, s114, s115, s116, s117, s118, s119, s120, s121, s122, s123, s124, (.int .i64 i), s126, s127, s128, s129, s130, rfl, hbw, (fun h2 => cx (bit_ne h2 (by decide))), (fun h2 => cy (bit_ne h2 (by decide))), (fun h h2 => c0 (bit_ne h (by decide)) (bit_ne h2 (by decide))), (fun h => c1 (bit_ne h (by decide))), (fun h => c2 (bit_ne h (by decide))), (fun h => c3 (bit_ne h (by decide))), (fun h => c4 (bit_ne h (by decide))), (fun h => c5 (bit_ne h (by decide))), (fun h => c6 (bit_ne h (by decide))), (fun h => c7 (bit_ne h (by decide))), (fun h h2 => c8 (bit_ne h (by decide)) (bit_ne h2 (by decide))), (fun h h2 => c9 (bit_ne h (by decide)) (bit_ne h2 (by decide))), (fun h => c10 (bit_ne h (by decide))), (fun _ => rfl), (fun h => c12 (bit_ne h (by decide))), (fun h => c13 (bit_ne h (by decide))), (fun h => c14 (bit_ne h (by decide))), (fun h h2 => c15 (bit_ne h (by decide)) (bit_ne h2 (by decide))), (fun h h2 => c16 (bit_ne h (by decide)) (bit_ne h2 (by decide))), (fun h => c17 (bit_ne h (by decide)))⟩
                · obtain rfl := Option.some.inj ho
                  have hsz : 12 < listed.size := by rw [hls]; decide
                  have hdep10 : listed.getD 10 false = true := hall ⟨10, .data⟩ (by simp) (by rfl)
                  obtain rfl := c10 hdep10
                  have hdep11 : listed.getD 11 false = true := hall ⟨11, .data⟩ (by simp) (by rfl)
                  obtain rfl := c11 hdep11
                  have hbw := hbW
                  refine inv_val (w' := w) (.pointer (some ⟨g, i * 33, none⟩)) rfl rfl (by go_simp) ?_
                  exact ⟨s12, s114, s115, s116, s117, s118, s119, s120, s121, s122, s123, (.slice (some ⟨g, 0, none⟩) m cp), (.int .i64 i), (.pointer (some ⟨g, i * 33, none⟩)), s127, s128, s129, s130, rfl, hbw, (fun h2 => cx (bit_ne h2 (by decide))), (fun h2 => cy (bit_ne h2 (by decide))), (fun h h2 => c0 (bit_ne h (by decide)) (bit_ne h2 (by decide))), (fun h => c1 (bit_ne h (by decide))), (fun h => c2 (bit_ne h (by decide))), (fun h => c3 (bit_ne h (by decide))), (fun h => c4 (bit_ne h (by decide))), (fun h => c5 (bit_ne h (by decide))), (fun h => c6 (bit_ne h (by decide))), (fun h => c7 (bit_ne h (by decide))), (fun h h2 => c8 (bit_ne h (by decide)) (bit_ne h2 (by decide))), (fun h h2 => c9 (bit_ne h (by decide)) (bit_ne h2 (by decide))), (fun h => c10 (bit_ne h (by decide))), (fun h => c11 (bit_ne h (by decide))), (fun _ => rfl), (fun h => c13 (bit_ne h (by decide))), (fun h => c14 (bit_ne h (by decide))), (fun h h2 => c15 (bit_ne h (by decide)) (bit_ne h2 (by decide))), (fun h h2 => c16 (bit_ne h (by decide)) (bit_ne h2 (by decide))), (fun h => c17 (bit_ne h (by decide)))⟩
                · obtain rfl := Option.some.inj ho
                  have hsz : 13 < listed.size := by rw [hls]; decide
                  have hdep12 : listed.getD 12 false = true := hall ⟨12, .data⟩ (by simp) (by rfl)
                  obtain rfl := c12 hdep12
                  have hbw := hbW
                  refine inv_val (w' := w) (.pointer (some ⟨g, i * 33, none⟩)) rfl rfl (by go_simp) ?_
                  exact ⟨s12, s114, s115, s116, s117, s118, s119, s120, s121, s122, s123, s124, s125, (.pointer (some ⟨g, i * 33, none⟩)), (.pointer (some ⟨g, i * 33, none⟩)), s128, s129, s130, rfl, hbw, (fun h2 => cx (bit_ne h2 (by decide))), (fun h2 => cy (bit_ne h2 (by decide))), (fun h h2 => c0 (bit_ne h (by decide)) (bit_ne h2 (by decide))), (fun h => c1 (bit_ne h (by decide))), (fun h => c2 (bit_ne h (by decide))), (fun h => c3 (bit_ne h (by decide))), (fun h => c4 (bit_ne h (by decide))), (fun h => c5 (bit_ne h (by decide))), (fun h => c6 (bit_ne h (by decide))), (fun h => c7 (bit_ne h (by decide))), (fun h h2 => c8 (bit_ne h (by decide)) (bit_ne h2 (by decide))), (fun h h2 => c9 (bit_ne h (by decide)) (bit_ne h2 (by decide))), (fun h => c10 (bit_ne h (by decide))), (fun h => c11 (bit_ne h (by decide))), (fun h => c12 (bit_ne h (by decide))), (fun _ => rfl), (fun h => c14 (bit_ne h (by decide))), (fun h h2 => c15 (bit_ne h (by decide)) (bit_ne h2 (by decide))), (fun h h2 => c16 (bit_ne h (by decide)) (bit_ne h2 (by decide))), (fun h => c17 (bit_ne h (by decide)))⟩
                · obtain rfl := Option.some.inj ho
                  have hsz : 14 < listed.size := by rw [hls]; decide
                  have hdep13 : listed.getD 13 false = true := hall ⟨13, .data⟩ (by simp) (by rfl)
                  obtain rfl := c13 hdep13
                  have hbw := hbW
                  refine inv_val (w' := w) (.string sx) rfl rfl (by have hq := hc w hbW; go_simp) ?_
                  exact ⟨s12, s114, s115, s116, s117, s118, s119, s120, s121, s122, s123, s124, s125, s126, (.pointer (some ⟨g, i * 33, none⟩)), (.string sx), s129, s130, rfl, hbw, (fun h2 => cx (bit_ne h2 (by decide))), (fun h2 => cy (bit_ne h2 (by decide))), (fun h h2 => c0 (bit_ne h (by decide)) (bit_ne h2 (by decide))), (fun h => c1 (bit_ne h (by decide))), (fun h => c2 (bit_ne h (by decide))), (fun h => c3 (bit_ne h (by decide))), (fun h => c4 (bit_ne h (by decide))), (fun h => c5 (bit_ne h (by decide))), (fun h => c6 (bit_ne h (by decide))), (fun h => c7 (bit_ne h (by decide))), (fun h h2 => c8 (bit_ne h (by decide)) (bit_ne h2 (by decide))), (fun h h2 => c9 (bit_ne h (by decide)) (bit_ne h2 (by decide))), (fun h => c10 (bit_ne h (by decide))), (fun h => c11 (bit_ne h (by decide))), (fun h => c12 (bit_ne h (by decide))), (fun h => c13 (bit_ne h (by decide))), (fun _ => rfl), (fun h h2 => c15 (bit_ne h (by decide)) (bit_ne h2 (by decide))), (fun h h2 => c16 (bit_ne h (by decide)) (bit_ne h2 (by decide))), (fun h => c17 (bit_ne h (by decide)))⟩
                · obtain rfl := Option.some.inj ho
                  have hsz : 15 < listed.size := by rw [hls]; decide
                  have hdep9 : listed.getD 9 false = true := hall ⟨9, .data⟩ (by simp) (by rfl)
                  obtain ⟨sp9, cap9, rfl, o9⟩ := c9 hdep9 hi
                  have hdep14 : listed.getD 14 false = true := hall ⟨14, .data⟩ (by simp) (by rfl)
                  obtain rfl := c14 hdep14
                  refine inv_op rfl rfl (wp8s (.tmp 123) (.tmp 128) 27 9 5 rfl B Try.underlying27 Try.underlying9 info5 _ (L0 ++ [(sx.size : Int)]) rfl o9 sx rfl (by rw [hX1]; omega) (hsB hbW) ?_)
                  intro sp cap w' ow hb' hgg
                  have hg := Grew.of hgg
                  have hbw : Below B wr w' := hbW.trans hb'
                  have hown := o9
                  rw [hX2] at ow ⊢
                  exact ⟨s12, s114, s115, s116, s117, s118, s119, s120, s121, s122, (.slice sp9 (n8 + 1) cap9), s124, s125, s126, s127, (.string sx), (.slice sp (n8 + 1 + sx.size) cap), s130, rfl, hbw, (fun h2 => absurd hdep9 (by rw [bit_ne h2 (by decide)]; decide)), (fun h2 => cy (bit_ne h2 (by decide))), (fun _ h2 => absurd hdep9 (by rw [bit_ne h2 (by decide)]; decide)), (fun h => c1 (bit_ne h (by decide))), (fun h => c2 (bit_ne h (by decide))), (fun h => c3 (bit_ne h (by decide))), (fun h => c4 (bit_ne h (by decide))), (fun h => c5 (bit_ne h (by decide))), (fun h => c6 (bit_ne h (by decide))), (fun h => c7 (bit_ne h (by decide))), (fun _ h2 => absurd hdep9 (by rw [bit_ne h2 (by decide)]; decide)), (fun _ h2 => absurd (bit_on hsz) (by rw [h2]; decide)), (fun h => c10 (bit_ne h (by decide))), (fun h => c11 (bit_ne h (by decide))), (fun h => c12 (bit_ne h (by decide))), (fun h => c13 (bit_ne h (by decide))), (fun h => c14 (bit_ne h (by decide))), (fun _ _ => ⟨sp, cap, rfl, ow⟩), (fun h _ => absurd (hcl 16 _ rfl (bit_ne h (by decide)) ⟨15, .data⟩ (by simp) rfl) (by rw [hi]; decide)), (fun h => absurd (hcl 16 _ rfl (hcl 17 _ rfl (bit_ne h (by decide)) ⟨16, .data⟩ (by simp) rfl) ⟨15, .data⟩ (by simp) rfl) (by rw [hi]; decide))⟩
                · obtain rfl := Option.some.inj ho
                  have hsz : 16 < listed.size := by rw [hls]; decide
                  have hdep15 : listed.getD 15 false = true := hall ⟨15, .data⟩ (by simp) (by rfl)
                  obtain ⟨sp15, cap15, rfl, o15⟩ := c15 hdep15 hi
                  refine inv_op rfl rfl (wp8z (.tmp 129) (.const (.int .i64 32)) 27 3 5 rfl B Try.underlying27 Try.underlying3 info5 (L0 ++ [(sx.size : Int)] ++ bNum sx) sp15 _ cap15 rfl o15 (by rw [hX2]; omega) 32 rfl (by decide) (by rw [hX2]; omega) (hsB hbW) ?_)
                  intro sp cap w' ow hb' hgg
                  have hg := Grew.of hgg
                  have hbw : Below B wr w' := hbW.trans hb'
                  have hown := o15
                  rw [hX3] at ow ⊢
                  exact ⟨s12, s114, s115, s116, s117, s118, s119, s120, s121, s122, s123, s124, s125, s126, s127, s128, (.slice sp15 (n8 + 1 + sx.size) cap15), (.slice sp (n8 + 1 + sx.size + 32) cap), rfl, hbw, (fun h2 => absurd (hcl 15 _ rfl hdep15 ⟨9, .data⟩ (by simp) rfl) (by rw [bit_ne h2 (by decide)]; decide)), (fun h2 => cy (bit_ne h2 (by decide))), (fun _ h2 => absurd (hcl 15 _ rfl hdep15 ⟨9, .data⟩ (by simp) rfl) (by rw [bit_ne h2 (by decide)]; decide)), (fun h => c1 (bit_ne h (by decide))), (fun h => c2 (bit_ne h (by decide))), (fun h => c3 (bit_ne h (by decide))), (fun h => c4 (bit_ne h (by decide))), (fun h => c5 (bit_ne h (by decide))), (fun h => c6 (bit_ne h (by decide))), (fun h => c7 (bit_ne h (by decide))), (fun _ h2 => absurd (hcl 15 _ rfl hdep15 ⟨9, .data⟩ (by simp) rfl) (by rw [bit_ne h2 (by decide)]; decide)), (fun _ h2 => absurd hdep15 (by rw [bit_ne h2 (by decide)]; decide)), (fun h => c10 (bit_ne h (by decide))), (fun h => c11 (bit_ne h (by decide))), (fun h => c12 (bit_ne h (by decide))), (fun h => c13 (bit_ne h (by decide))), (fun h => c14 (bit_ne h (by decide))), (fun _ h2 => absurd (bit_on hsz) (by rw [h2]; decide)), (fun _ _ => ⟨sp, cap, rfl, ow⟩), (fun h => absurd (hcl 17 _ rfl (bit_ne h (by decide)) ⟨16, .data⟩ (by simp) rfl) (by rw [hi]; decide))⟩
                · obtain rfl := Option.some.inj ho
                  have hsz : 17 < listed.size := by rw [hls]; decide
                  have hdep16 : listed.getD 16 false = true := hall ⟨16, .data⟩ (by simp) (by rfl)
                  obtain ⟨sp16, cap16, rfl, o16⟩ := c16 hdep16 hi
                  have hbw := hbW
                  refine inv_val (w' := w) (.slice sp16 (n8 + 1 + sx.size + 32) cap16) rfl rfl rfl ?_
                  exact ⟨(.slice sp16 (n8 + 1 + sx.size + 32) cap16), s114, s115, s116, s117, s118, s119, s120, s121, s122, s123, s124, s125, s126, s127, s128, s129, (.slice sp16 (n8 + 1 + sx.size + 32) cap16), rfl, hbw, (fun h2 => absurd (hcl 15 _ rfl (hcl 16 _ rfl hdep16 ⟨15, .data⟩ (by simp) rfl) ⟨9, .data⟩ (by simp) rfl) (by rw [bit_ne h2 (by decide)]; decide)), (fun h2 => absurd (bit_on hsz) (by rw [h2]; decide)), (fun h h2 => c0 (bit_ne h (by decide)) (bit_ne h2 (by decide))), (fun h => c1 (bit_ne h (by decide))), (fun h => c2 (bit_ne h (by decide))), (fun h => c3 (bit_ne h (by decide))), (fun h => c4 (bit_ne h (by decide))), (fun h => c5 (bit_ne h (by decide))), (fun h => c6 (bit_ne h (by decide))), (fun h => c7 (bit_ne h (by decide))), (fun h h2 => c8 (bit_ne h (by decide)) (bit_ne h2 (by decide))), (fun h h2 => c9 (bit_ne h (by decide)) (bit_ne h2 (by decide))), (fun h => c10 (bit_ne h (by decide))), (fun h => c11 (bit_ne h (by decide))), (fun h => c12 (bit_ne h (by decide))), (fun h => c13 (bit_ne h (by decide))), (fun h => c14 (bit_ne h (by decide))), (fun h h2 => c15 (bit_ne h (by decide)) (bit_ne h2 (by decide))), (fun _ h2 => absurd (bit_on hsz) (by rw [h2]; decide)), (fun _ => ⟨sp16, cap16, rfl, o16⟩)⟩
              · intro listed a w hall hJ
                obtain ⟨s12, s114, s115, s116, s117, s118, s119, s120, s121, s122, s123, s124, s125, s126, s127, s128, s129, s130, rfl, hbW, cx, cy, c0, c1, c2, c3, c4, c5, c6, c7, c8, c9, c10, c11, c12, c13, c14, c15, c16, c17⟩ := hJ
                obtain rfl := c1 (hall 1 (by decide))
                obtain rfl := c2 (hall 2 (by decide))
                obtain rfl := c3 (hall 3 (by decide))
                obtain rfl := c4 (hall 4 (by decide))
                obtain rfl := c5 (hall 5 (by decide))
                obtain rfl := c6 (hall 6 (by decide))
                obtain rfl := c7 (hall 7 (by decide))
                obtain rfl := c10 (hall 10 (by decide))
                obtain rfl := c11 (hall 11 (by decide))
                obtain rfl := c12 (hall 12 (by decide))
                obtain rfl := c13 (hall 13 (by decide))
                obtain rfl := c14 (hall 14 (by decide))
                obtain ⟨sp17, cap17, rfl, o17⟩ := c17 (hall 17 (by decide))
                have bb := b6.trans (by rw [← hB]; exact hbW)
                clear hbW hc hc0 hsB hall
                generalize w = w7 at *
                go_wp2
                go_roundw
                case rel => exact ⟨i + 1, sp17, _, cap17, rfl, by go_num, by omega, by rw [htk, ← hB]; exact o17, by rw [htk]; exact hX3, by omega, bb⟩
                case measure => simp [intOf]; omega
            · obtain rfl : i = m := by omega
              have htk : E5.take i = E5 := by rw [← hl5]; exact List.take_length
              rw [htk] at ow hln
              have hEn := ea5.ents.below b6 (Nat.le_refl _)
              have b7 := b5.trans (b6.mono b5.size)
              have hdb := fun wy h => dir_bad E5 i (some ⟨g, 0, none⟩) cp wy hl5 h hok5 (by omega) (by rw [hch5]; decide)
              rw [hch5] at hdb
              clear ea5 hnd5 hpd b6 b5
              go_upto_region 31 with (go_at_call 22; (with_reducible refine Calls.mono (hdb _ hEn) ?_); rintro e7 w8 ⟨rfl, hb8⟩)
              have ow8 := ow.below hb8 (Nat.le_refl _)
              have hbt := ow8.bytes
              have hcc := ow8.cap
              have hpa := pdir_any (encD E5) sp n8 cw w8 hln (by omega) hcc hbt (encD_by hok5 (fun x hx => by have := (hn5 x hx).2; omega))
              rw [hde, hdo] at hpa
              have b8 := b7.trans (hb8.mono b7.size)
              clear hn5 hdb hEn ow ow8 hbt hcc hok5 hch5
              go_wp2_with (go_at_call 24; (with_reducible refine Calls.mono hpa ?_); rintro e9 w9 ⟨sp9, cap9, rfl, _, _, hb9⟩)
              go_ret
              exact ⟨rfl, b8.trans (hb9.mono b8.size)⟩
      · go_upto_region 25 with (first | (go_at_call 27; (with_reducible refine Calls.mono (hw1 _) ?_); rintro e1 w2 ⟨rfl, hw⟩; obtain rfl := hw.symm; clear hw) | (go_at_call 27; (with_reducible refine Calls.mono (hw2 _) ?_); rintro e1 w2 ⟨rfl, hw⟩; obtain rfl := hw.symm; clear hw) | (refine wpList_load_mid (by rfl) 54 (.tmp 93) (by rfl) g (k * 33) (by rfl) (ec e) _ hr1 Try.underlying54 rfl hie ?_) | (refine wpList_store_mid (by rfl) 54 (.tmp 95) (.tmp 94) (by rfl) g ((k + 1) * 33) (en e) (by rfl) (by rfl) (by rw [en_size he.1]; exact ht2) hie (en_one e) ?_))
        have ea5 := hea.set (k := k + 1) (by omega) he.1 hok
        have b5 := b1.trans ((Lib.below_setCells_w hwg (ec e) ((k + 1) * 33) wr))
        have hri5 := rise_dup hget (show k + 1 < E.length by omega)
        have hg5 : ∀ x ∈ E.set (k + 1) e, GoodE x := fun x hx => by
          rcases List.mem_or_eq_of_mem_set hx with h | h
          · exact hg x h
          · subst h; exact hg _ (List.mem_of_getElem? hget)
        have hch5 := chkE_one (nmE_good hg5) hri5
        have hl5 : (E.set (k + 1) e).length = m := by simp [hEl]
        have hn5 : ∀ x ∈ E.set (k + 1) e, x.node = zer 32 ∧ x.name.size ≤ 49 := fun x hx => ⟨(hg5 x hx).2.2, (hg5 x hx).2.1⟩
        clear hri5 hg5
        generalize E.set (k + 1) e = E5 at *
        change Code.wp _ _ _ _ (wr.setCells g ((k + 1) * 33) (ec e))
        generalize wr.setCells g ((k + 1) * 33) (ec e) = w5 at *
        clear hea hget hget2 hr1 hr2 ht1 ht2 he hf hie hif c1 f1 hnm0 hw1 hw2 hg hri hok hwg b1 hEl hkm hkmi hk
        have hok5 : EntsOk E5 := fun x hx => by
          obtain ⟨h2, h3⟩ := hn5 x hx
          refine ⟨by rw [h2]; rfl, fun y hy => ?_, by omega⟩
          rw [h2] at hy; simp [zer] at hy; omega
        have hnd5 : ∀ x ∈ E5, x.node.length = 32 := fun x hx => (hok5 x hx).1
        have hpd := pD_enc hnd5
        have hde : dErr (encD E5) = 1 := by rw [dErr, hpd]; exact hch5
        have hdo : dOut (encD E5) = [] := by rw [dOut, hpd]; simp only [hch5]; rfl
        go_wp2
        go_loopw [12, 13] (fun rv iv wr => ∃ (i : Nat) (sp : Option Addr) (n8 cw : Nat), rv = .slice sp n8 cw ∧ iv = .int .i64 i ∧ i ≤ m ∧ Own8 wr w5.heap.size 5 (.slice sp n8 cw) (encD (E5.take i)) ∧ (encD (E5.take i)).length = n8 ∧ n8 ≤ i * 82 ∧ Below w5.heap.size w5 wr) (fun _ iv _ => m - (intOf iv).toNat)
        case atStart => exact ⟨0, none, 0, 0, rfl, rfl, by omega, own8_none _ _, rfl, by omega, Below.refl _ _⟩
        case round =>
          obtain ⟨i, sp, n8, cw, rfl, rfl, hi, ow, hln, hsz, b6⟩ := hrel
          by_cases him : i < m
          · obtain ⟨x, hgx⟩ : ∃ x, E5[i]? = some x := ⟨_, List.getElem?_eq_getElem (by omega)⟩
            obtain ⟨hnd, hns⟩ := hn5 x (List.mem_of_getElem? hgx)
            obtain ⟨B, hB⟩ : ∃ B, B = w5.heap.size := ⟨_, rfl⟩
            have hrx := ea5.rng i x hgx
            have hc : ∀ wy, Below B wr wy → wy.cell? ⟨g, i * 33, none⟩ = some (.string x.name) := fun wy h => range0 (rangeAt_below hrx (b6.trans (by rw [← hB]; exact h)) (Nat.le_refl _))
            have hsB : ∀ {wy : World}, Below B wr wy → B ≤ wy.heap.size := fun h => by have := h.size; have := b6.size; omega
            have htk : encD (E5.take (i + 1)) = encD (E5.take i) ++ [(x.name.size : Int)] ++ bNum x.name ++ List.replicate 32 0 := by
              rw [List.take_add_one, hgx]; simp [encD, encE, hnd, zer]
            rw [← hB] at ow
            have him' : (i : Int) < m := by omega
            have hc0 := hc wr (Below.refl _ _)
            clear hrx ea5 hok5 hnd5 hpd hde hdo hgx hn5 hnd
            go_upto_region 29 with fail
            generalize encD (E5.take i) = L0 at *
            generalize x.name = sx at *
            have hsx : 0 ≤ (sx.size : Int) ∧ (sx.size : Int) ≤ 49 := by omega
            have hX1 : (L0 ++ [(sx.size : Int)]).length = n8 + 1 := by simp [hln]
            have hX2 : (L0 ++ [(sx.size : Int)] ++ bNum sx).length = n8 + 1 + sx.size := by simp [hln, bNum_len]; omega
            have hX3 : (L0 ++ [(sx.size : Int)] ++ bNum sx ++ List.replicate 32 0).length = n8 + 1 + sx.size + 32 := by simp [hln, bNum_len]; omega
            refine region_invFA  (by kernel_rfl) (by kernel_rfl) (fun a0 listed a w => ∃ s12 s114 s115 s116 s117 s118 s119 s120 s121 s122 s123 s124 s125 s126 s127 s128 s129 s130, a = (Act.put (Act.put (Act.put (Act.put (Act.put (Act.put (Act.put (Act.put (Act.put (Act.put (Act.put (Act.put (Act.put (Act.put (Act.put (Act.put (Act.put (Act.put a0 (some 12) s12) (some 114) s114) (some 115) s115) (some 116) s116) (some 117) s117) (some 118) s118) (some 119) s119) (some 120) s120) (some 121) s121) (some 122) s122) (some 123) s123) (some 124) s124) (some 125) s125) (some 126) s126) (some 127) s127) (some 128) s128) (some 129) s129) (some 130) s130) ∧ Below B wr w ∧ (listed.getD 9 false = false → Own8 w B 5 (.slice sp n8 cw) L0) ∧ (listed.getD 17 false = false → s12 = .slice sp n8 cw) ∧ (listed.getD 0 false = true → listed.getD 9 false = false → OwnS w B s114 n8 L0) ∧ (listed.getD 1 false = true → s115 = .slice (some ⟨g, 0, none⟩) m cp) ∧ (listed.getD 2 false = true → s116 = .int .i64 i) ∧ (listed.getD 3 false = true → s117 = .pointer (some ⟨g, i * 33, none⟩)) ∧ (listed.getD 4 false = true → s118 = .pointer (some ⟨g, i * 33, none⟩)) ∧ (listed.getD 5 false = true → s119 = .string sx) ∧ (listed.getD 6 false = true → s120 = .int .i64 (sx.size : Int)) ∧ (listed.getD 7 false = true → s121 = .int .u8 (sx.size : Int)) ∧ (listed.getD 8 false = true → listed.getD 9 false = false → LitS w B s122 1 [(sx.size : Int)]) ∧ (listed.getD 9 false = true → listed.getD 15 false = false → OwnS w B s123 (n8 + 1) (L0 ++ [(sx.size : Int)])) ∧ (listed.getD 10 false = true → s124 = .slice (some ⟨g, 0, none⟩) m cp) ∧ (listed.getD 11 false = true → s125 = .int .i64 i) ∧ (listed.getD 12 false = true → s126 = .pointer (some ⟨g, i * 33, none⟩)) ∧ (listed.getD 13 false = true → s127 = .pointer (some ⟨g, i * 33, none⟩)) ∧ (listed.getD 14 false = true → s128 = .string sx) ∧ (listed.getD 15 false = true → listed.getD 16 false = false → OwnS w B s129 (n8 + 1 + sx.size) (L0 ++ [(sx.size : Int)] ++ bNum sx)) ∧ (listed.getD 16 false = true → listed.getD 17 false = false → OwnS w B s130 (n8 + 1 + sx.size + 32) (L0 ++ [(sx.size : Int)] ++ bNum sx ++ List.replicate 32 0)) ∧ (listed.getD 17 false = true → OwnS w B s12 (n8 + 1 + sx.size + 32) (L0 ++ [(sx.size : Int)] ++ bNum sx ++ List.replicate 32 0))) ?_ ?_ ?_
            all_goals simp only [Act.put, List.setIfInBounds_toArray, List.set_cons_succ, List.set_cons_zero]
            · exact ⟨_, _, _, _, _, _, _, _, _, _, _, _, _, _, _, _, _, _, rfl, (Below.refl B _).drew, (fun _ => ow.drew1), (fun _ => rfl), (fun h => absurd h (by rw [getD_replicate_false]; decide)), (fun h => absurd h (by rw [getD_replicate_false]; decide)), (fun h => absurd h (by rw [getD_replicate_false]; decide)), (fun h => absurd h (by rw [getD_replicate_false]; decide)), (fun h => absurd h (by rw [getD_replicate_false]; decide)), (fun h => absurd h (by rw [getD_replicate_false]; decide)), (fun h => absurd h (by rw [getD_replicate_false]; decide)), (fun h => absurd h (by rw [getD_replicate_false]; decide)), (fun h => absurd h (by rw [getD_replicate_false]; decide)), (fun h => absurd h (by rw [getD_replicate_false]; decide)), (fun h => absurd h (by rw [getD_replicate_false]; decide)), (fun h => absurd h (by rw [getD_replicate_false]; decide)), (fun h => absurd h (by rw [getD_replicate_false]; decide)), (fun h => absurd h (by rw [getD_replicate_false]; decide)), (fun h => absurd h (by rw [getD_replicate_false]; decide)), (fun h => absurd h (by rw [getD_replicate_false]; decide)), (fun h => absurd h (by rw [getD_replicate_false]; decide)), (fun h => absurd h (by rw [getD_replicate_false]; decide))⟩
            · intro listed a w i o hls hJ hin ho hi hall hcl
              obtain ⟨s12, s114, s115, s116, s117, s118, s119, s120, s121, s122, s123, s124, s125, s126, s127, s128, s129, s130, rfl, hbW, cx, cy, c0, c1, c2, c3, c4, c5, c6, c7, c8, c9, c10, c11, c12, c13, c14, c15, c16, c17⟩ := hJ
              replace hin : i < 18 := hin
              rcases (by omega : i = 0 ∨ i = 1 ∨ i = 2 ∨ i = 3 ∨ i = 4 ∨ i = 5 ∨ i = 6 ∨ i = 7 ∨ i = 8 ∨ i = 9 ∨ i = 10 ∨ i = 11 ∨ i = 12 ∨ i = 13 ∨ i = 14 ∨ i = 15 ∨ i = 16 ∨ i = 17) with rfl | rfl | rfl | rfl | rfl | rfl | rfl | rfl | rfl | rfl | rfl | rfl | rfl | rfl | rfl | rfl | rfl | rfl
              · obtain rfl := Option.some.inj ho
                have hsz : 0 < listed.size := by rw [hls]; decide
                have hbw := hbW
                have nU : listed.getD 17 false = false := by
                  cases hq : listed.getD 17 false with
                  | false => rfl
                  | true => exact absurd (hcl 9 _ rfl (hcl 15 _ rfl (hcl 16 _ rfl (hcl 17 _ rfl hq ⟨16, .data⟩ (by simp) rfl) ⟨15, .data⟩ (by simp) rfl) ⟨9, .data⟩ (by simp) rfl) ⟨0, .data⟩ (by simp) rfl) (by rw [hi]; decide)
                obtain rfl := cy nU
                refine inv_val (w' := w) (.slice sp n8 cw) rfl rfl rfl ?_
                exact ⟨(.slice sp n8 cw), (.slice sp n8 cw), s115, s116, s117, s118, s119, s120, s121, s122, s123, s124, s125, s126, s127, s128, s129, s130, rfl, hbw, (fun h2 => cx (bit_ne h2 (by decide))), (fun _ => rfl), (fun _ h2 => ⟨sp, cw, rfl, cx (by first | exact bit_ne h2 (by decide) | exact h2)⟩), (fun h => c1 (bit_ne h (by decide))), (fun h => c2 (bit_ne h (by decide))), (fun h => c3 (bit_ne h (by decide))), (fun h => c4 (bit_ne h (by decide))), (fun h => c5 (bit_ne h (by decide))), (fun h => c6 (bit_ne h (by decide))), (fun h => c7 (bit_ne h (by decide))), (fun h h2 => c8 (bit_ne h (by decide)) (bit_ne h2 (by decide))), (fun h h2 => c9 (bit_ne h (by decide)) (bit_ne h2 (by decide))), (fun h => c10 (bit_ne h (by decide))), (fun h => c11 (bit_ne h (by decide))), (fun h => c12 (bit_ne h (by decide))), (fun h => c13 (bit_ne h (by decide))), (fun h => c14 (bit_ne h (by decide))), (fun h h2 => c15 (bit_ne h (by decide)) (bit_ne h2 (by decide))), (fun h h2 => c16 (bit_ne h (by decide)) (bit_ne h2 (by decide))), (fun h => c17 (bit_ne h (by decide)))⟩
              · obtain rfl := Option.some.inj ho
                have hsz : 1 < listed.size := by rw [hls]; decide
                have hbw := hbW
                refine inv_val (w' := w) (.slice (some ⟨g, 0, none⟩) m cp) rfl rfl rfl ?_
                exact ⟨s12, s114, (.slice (some ⟨g, 0, none⟩) m cp), s116, s117, s118, s119, s120, s121, s122, s123, s124, s125, s126, s127, s128, s129, s130, rfl, hbw, (fun h2 => cx (bit_ne h2 (by decide))), (fun h2 => cy (bit_ne h2 (by decide))), (fun h h2 => c0 (bit_ne h (by decide)) (bit_ne h2 (by decide))), (fun _ => rfl), (fun h => c2 (bit_ne h (by decide))), (fun h => c3 (bit_ne h (by decide))), (fun h => c4 (bit_ne h (by decide))), (fun h => c5 (bit_ne h (by decide))), (fun h => c6 (bit_ne h (by decide))), (fun h => c7 (bit_ne h (by decide))), (fun h h2 => c8 (bit_ne h (by decide)) (bit_ne h2 (by decide))), (fun h h2 => c9 (bit_ne h (by decide)) (bit_ne h2 (by decide))), (fun h => c10 (bit_ne h (by decide))), (fun h => c11 (bit_ne h (by decide))), (fun h => c12 (bit_ne h (by decide))), (fun h => c13 (bit_ne h (by decide))), (fun h => c14 (bit_ne h (by decide))), (fun h h2 => c15 (bit_ne h (by decide)) (bit_ne h2 (by decide))), (fun h h2 => c16 (bit_ne h (by decide)) (bit_ne h2 (by decide))), (fun h => c17 (bit_ne h (by decide)))⟩
              · obtain rfl := Option.some.inj ho
                have hsz : 2 < listed.size := by rw [hls]; decide
                have hbw := hbW
                refine inv_val (w' := w) (.int .i64 i) rfl rfl rfl ?_
                exact ⟨s12, s114, s115, (.int .i64 i), s117, s118, s119, s120, s121, s122, s123, s124, s125, s126, s127, s128, s129, s130, rfl, hbw, (fun h2 => cx (bit_ne h2 (by decide))), (fun h2 => cy (bit_ne h2 (by decide))), (fun h h2 => c0 (bit_ne h (by decide)) (bit_ne h2 (by decide))), (fun h => c1 (bit_ne h (by decide))), (fun _ => rfl), (fun h => c3 (bit_ne h (by decide))), (fun h => c4 (bit_ne h (by decide))), (fun h => c5 (bit_ne h (by decide))), (fun h => c6 (bit_ne h (by decide))), (fun h => c7 (bit_ne h (by decide))), (fun h h2 => c8 (bit_ne h (by decide)) (bit_ne h2 (by decide))), (fun h h2 => c9 (bit_ne h (by decide)) (bit_ne h2 (by decide))), (fun h => c10 (bit_ne h (by decide))), (fun h => c11 (bit_ne h (by decide))), (fun h => c12 (bit_ne h (by decide))), (fun h => c13 (bit_ne h (by decide))), (fun h => c14 (bit_ne h (by decide))), (fun h h2 => c15 (bit_ne h (by decide)) (bit_ne h2 (by decide))), (fun h h2 => c16 (bit_ne h (by decide)) (bit_ne h2 (by decide))), (fun h => c17 (bit_ne h (by decide)))⟩
              · obtain rfl := Option.some.inj ho
                have hsz : 3 < listed.size := by rw [hls]; decide
                have hdep1 : listed.getD 1 false = true := hall ⟨1, .data⟩ (by simp) (by rfl)
                obtain rfl := c1 hdep1
                have hdep2 : listed.getD 2 false = true := hall ⟨2, .data⟩ (by simp) (by rfl)
                obtain rfl := c2 hdep2
                have hbw := hbW
                refine inv_val (w' := w) (.pointer (some ⟨g, i * 33, none⟩)) rfl rfl (by go_simp) ?_
                exact ⟨s12, s114, (.slice (some ⟨g, 0, none⟩) m cp), (.int .i64 i), (.pointer (some ⟨g, i * 33, none⟩)), s118, s119, s120, s121, s122, s123, s124, s125, s126, s127, s128, s129, s130, rfl, hbw, (fun h2 => cx (bit_ne h2 (by decide))), (fun h2 => cy (bit_ne h2 (by decide))), (fun h h2 => c0 (bit_ne h (by decide)) (bit_ne h2 (by decide))), (fun h => c1 (bit_ne h (by decide))), (fun h => c2 (bit_ne h (by decide))), (fun _ => rfl), (fun h => c4 (bit_ne h (by decide))), (fun h => c5 (bit_ne h (by decide))), (fun h => c6 (bit_ne h (by decide))), (fun h => c7 (bit_ne h (by decide))), (fun h h2 => c8 (bit_ne h (by decide)) (bit_ne h2 (by decide))), (fun h h2 => c9 (bit_ne h (by decide)) (bit_ne h2 (by decide))), (fun h => c10 (bit_ne h (by decide))), (fun h => c11 (bit_ne h (by decide))), (fun h => c12 (bit_ne h (by decide))), (fun h => c13 (bit_ne h (by decide))), (fun h => c14 (bit_ne h (by decide))), (fun h h2 => c15 (bit_ne h (by decide)) (bit_ne h2 (by decide))), (fun h h2 => c16 (bit_ne h (by decide)) (bit_ne h2 (by decide))), (fun h => c17 (bit_ne h (by decide)))⟩
              · obtain rfl := Option.some.inj ho
                have hsz : 4 < listed.size := by rw [hls]; decide
                have hdep3 : listed.getD 3 false = true := hall ⟨3, .data⟩ (by simp) (by rfl)
                obtain rfl := c3 hdep3
                have hbw := hbW
                refine inv_val (w' := w) (.pointer (some ⟨g, i * 33, none⟩)) rfl rfl (by go_simp) ?_
                exact ⟨s12, s114, s115, s116, (.pointer (some ⟨g, i * 33, none⟩)), (.pointer (some ⟨g, i * 33, none⟩)), s119, s120, s121, s122, s123, s124, s125, s126, s127, s128, s129, s130, rfl, hbw, (fun h2 => cx (bit_ne h2 (by decide))), (fun h2 => cy (bit_ne h2 (by decide))), (fun h h2 => c0 (bit_ne h (by decide)) (bit_ne h2 (by decide))), (fun h => c1 (bit_ne h (by decide))), (fun h => c2 (bit_ne h (by decide))), (fun h => c3 (bit_ne h (by decide))), (fun _ => rfl), (fun h => c5 (bit_ne h (by decide))), (fun h => c6 (bit_ne h (by decide))), (fun h => c7 (bit_ne h (by decide))), (fun h h2 => c8 (bit_ne h (by decide)) (bit_ne h2 (by decide))), (fun h h2 => c9 (bit_ne h (by decide)) (bit_ne h2 (by decide))), (fun h => c10 (bit_ne h (by decide))), (fun h => c11 (bit_ne h (by decide))), (fun h => c12 (bit_ne h (by decide))), (fun h => c13 (bit_ne h (by decide))), (fun h => c14 (bit_ne h (by decide))), (fun h h2 => c15 (bit_ne h (by decide)) (bit_ne h2 (by decide))), (fun h h2 => c16 (bit_ne h (by decide)) (bit_ne h2 (by decide))), (fun h => c17 (bit_ne h (by decide)))⟩
              · obtain rfl := Option.some.inj ho
                have hsz : 5 < listed.size := by rw [hls]; decide
                have hdep4 : listed.getD 4 false = true := hall ⟨4, .data⟩ (by simp) (by rfl)
                obtain rfl := c4 hdep4
                have hbw := hbW
                refine inv_val (w' := w) (.string sx) rfl rfl (by have hq := hc w hbW; go_simp) ?_
                exact ⟨s12, s114, s115, s116, s117, (.pointer (some ⟨g, i * 33, none⟩)), (.string sx), s120, s121, s122, s123, s124, s125, s126, s127, s128, s129, s130, rfl, hbw, (fun h2 => cx (bit_ne h2 (by decide))), (fun h2 => cy (bit_ne h2 (by decide))), (fun h h2 => c0 (bit_ne h (by decide)) (bit_ne h2 (by decide))), (fun h => c1 (bit_ne h (by decide))), (fun h => c2 (bit_ne h (by decide))), (fun h => c3 (bit_ne h (by decide))), (fun h => c4 (bit_ne h (by decide))), (fun _ => rfl), (fun h => c6 (bit_ne h (by decide))), (fun h => c7 (bit_ne h (by decide))), (fun h h2 => c8 (bit_ne h (by decide)) (bit_ne h2 (by decide))), (fun h h2 => c9 (bit_ne h (by decide)) (bit_ne h2 (by decide))), (fun h => c10 (bit_ne h (by decide))), (fun h => c11 (bit_ne h (by decide))), (fun h => c12 (bit_ne h (by decide))), (fun h => c13 (bit_ne h (by decide))), (fun h => c14 (bit_ne h (by decide))), (fun h h2 => c15 (bit_ne h (by decide)) (bit_ne h2 (by decide))), (fun h h2 => c16 (bit_ne h (by decide)) (bit_ne h2 (by decide))), (fun h => c17 (bit_ne h (by decide)))⟩
              · obtain rfl := Option.some.inj ho
                have hsz : 6 < listed.size := by rw [hls]; decide
                have hdep5 : listed.getD 5 false = true := hall ⟨5, .data⟩ (by simp) (by rfl)
                obtain rfl := c5 hdep5
                have hbw := hbW
                refine inv_val (w' := w) (.int .i64 (sx.size : Int)) rfl rfl (by go_simp) ?_
                exact ⟨s12, s114, s115, s116, s117, s118, (.string sx), (.int .i64 (sx.size : Int)), s121, s122, s123, s124, s125, s126, s127, s128, s129, s130, rfl, hbw, (fun h2 => cx (bit_ne h2 (by decide))), (fun h2 => cy (bit_ne h2 (by decide))), (fun h h2 => c0 (bit_ne h (by decide)) (bit_ne h2 (by decide))), (fun h => c1 (bit_ne h (by decide))), (fun h => c2 (bit_ne h (by decide))), (fun h => c3 (bit_ne h (by decide))), (fun h => c4 (bit_ne h (by decide))), (fun h => c5 (bit_ne h (by decide))), (fun _ => rfl), (fun h => c7 (bit_ne h (by decide))), (fun h h2 => c8 (bit_ne h (by decide)) (bit_ne h2 (by decide))), (fun h h2 => c9 (bit_ne h (by decide)) (bit_ne h2 (by decide))), (fun h => c10 (bit_ne h (by decide))), (fun h => c11 (bit_ne h (by decide))), (fun h => c12 (bit_ne h (by decide))), (fun h => c13 (bit_ne h (by decide))), (fun h => c14 (bit_ne h (by decide))), (fun h h2 => c15 (bit_ne h (by decide)) (bit_ne h2 (by decide))), (fun h h2 => c16 (bit_ne h (by decide)) (bit_ne h2 (by decide))), (fun h => c17 (bit_ne h (by decide)))⟩
              · obtain rfl := Option.some.inj ho
                have hsz : 7 < listed.size := by rw [hls]; decide
                have hdep6 : listed.getD 6 false = true := hall ⟨6, .data⟩ (by simp) (by rfl)
                obtain rfl := c6 hdep6
                have hbw := hbW
                refine inv_val (w' := w) (.int .u8 (sx.size : Int)) rfl rfl (by go_simp; exact wrap88 hsx) ?_
                exact ⟨s12, s114, s115, s116, s117, s118, s119, (.int .i64 (sx.size : Int)), (.int .u8 (sx.size : Int)), s122, s123, s124, s125, s126, s127, s128, s129, s130, rfl, hbw, (fun h2 => cx (bit_ne h2 (by decide))), (fun h2 => cy (bit_ne h2 (by decide))), (fun h h2 => c0 (bit_ne h (by decide)) (bit_ne h2 (by decide))), (fun h => c1 (bit_ne h (by decide))), (fun h => c2 (bit_ne h (by decide))), (fun h => c3 (bit_ne h (by decide))), (fun h => c4 (bit_ne h (by decide))), (fun h => c5 (bit_ne h (by decide))), (fun h => c6 (bit_ne h (by decide))), (fun _ => rfl), (fun h h2 => c8 (bit_ne h (by decide)) (bit_ne h2 (by decide))), (fun h h2 => c9 (bit_ne h (by decide)) (bit_ne h2 (by decide))), (fun h => c10 (bit_ne h (by decide))), (fun h => c11 (bit_ne h (by decide))), (fun h => c12 (bit_ne h (by decide))), (fun h => c13 (bit_ne h (by decide))), (fun h => c14 (bit_ne h (by decide))), (fun h h2 => c15 (bit_ne h (by decide)) (bit_ne h2 (by decide))), (fun h h2 => c16 (bit_ne h (by decide)) (bit_ne h2 (by decide))), (fun h => c17 (bit_ne h (by decide)))⟩
              · obtain rfl := Option.some.inj ho
                have hsz : 8 < listed.size := by rw [hls]; decide
                have hdep7 : listed.getD 7 false = true := hall ⟨7, .data⟩ (by simp) (by rfl)
                obtain rfl := c7 hdep7
                have hbw : Below B wr (w.alloc (.cells (v8 [(sx.size : Int)]) 5)) := hbW.alloc (hsB hbW) _
                refine inv_val (.slice (some ⟨w.heap.size, 0, none⟩) 1 1) (w' := w.alloc (.cells (v8 [(sx.size : Int)]) 5)) rfl rfl (by kernel_rfl) ?_
                exact ⟨s12, s114, s115, s116, s117, s118, s119, s120, (.int .u8 (sx.size : Int)), (.slice (some ⟨w.heap.size, 0, none⟩) 1 1), s123, s124, s125, s126, s127, s128, s129, s130, rfl, hbw, (fun h2 => (cx (bit_ne h2 (by decide))).alloc _), (fun h2 => cy (bit_ne h2 (by decide))), (fun h h2 => (c0 (bit_ne h (by decide)) (bit_ne h2 (by decide))).alloc _), (fun h => c1 (bit_ne h (by decide))), (fun h => c2 (bit_ne h (by decide))), (fun h => c3 (bit_ne h (by decide))), (fun h => c4 (bit_ne h (by decide))), (fun h => c5 (bit_ne h (by decide))), (fun h => c6 (bit_ne h (by decide))), (fun h => c7 (bit_ne h (by decide))), (fun _ _ => LitS.new w B (hsB hbW) 1 [(sx.size : Int)] (by rfl)), (fun h h2 => (c9 (bit_ne h (by decide)) (bit_ne h2 (by decide))).alloc _), (fun h => c10 (bit_ne h (by decide))), (fun h => c11 (bit_ne h (by decide))), (fun h => c12 (bit_ne h (by decide))), (fun h => c13 (bit_ne h (by decide))), (fun h => c14 (bit_ne h (by decide))), (fun h h2 => (c15 (bit_ne h (by decide)) (bit_ne h2 (by decide))).alloc _), (fun h h2 => (c16 (bit_ne h (by decide)) (bit_ne h2 (by decide))).alloc _), (fun h => (c17 (bit_ne h (by decide))).alloc _)⟩
              · obtain rfl := Option.some.inj ho
                have hsz : 9 < listed.size := by rw [hls]; decide
                have hdep0 : listed.getD 0 false = true := hall ⟨0, .data⟩ (by simp) (by rfl)
                obtain ⟨sp0, cap0, rfl, o0⟩ := c0 hdep0 hi
                have hdep8 : listed.getD 8 false = true := hall ⟨8, .data⟩ (by simp) (by rfl)
                obtain ⟨b8, rfl, r8, hb8⟩ := c8 hdep8 hi
                refine inv_op rfl rfl (wp8g (.tmp 114) (.tmp 122) 27 5 rfl B Try.underlying27 info5 _ L0 rfl o0 (some ⟨b8, 0, none⟩) 1 1 [(sx.size : Int)] rfl rfl (fun h => by cases h) r8.bytes (by first | omega | simp | (simp; omega)) (hsB hbW) ?_)
                intro sp cap w' ow hb' hgg
                have hg := Grew.of hgg
                have hbw : Below B wr w' := hbW.trans hb'
                have hown := o0
                rw [hX1] at ow ⊢
                exact ⟨s12, (.slice sp0 n8 cap0), s115, s116, s117, s118, s119, s120, s121, (.slice (some ⟨b8, 0, none⟩) 1 1), (.slice sp (n8 + 1) cap), s124, s125, s126, s127, s128, s129, s130, rfl, hbw, (fun h2 => absurd (bit_on hsz) (by rw [h2]; decide)), (fun h2 => cy (bit_ne h2 (by decide))), (fun _ h2 => absurd (bit_on hsz) (by rw [h2]; decide)), (fun h => c1 (bit_ne h (by decide))), (fun h => c2 (bit_ne h (by decide))), (fun h => c3 (bit_ne h (by decide))), (fun h => c4 (bit_ne h (by decide))), (fun h => c5 (bit_ne h (by decide))), (fun h => c6 (bit_ne h (by decide))), (fun h => c7 (bit_ne h (by decide))), (fun _ h2 => absurd (bit_on hsz) (by rw [h2]; decide)), (fun _ _ => ⟨sp, cap, rfl, ow⟩), (fun h => c10 (bit_ne h (by decide))), (fun h => c11 (bit_ne h (by decide))), (fun h => c12 (bit_ne h (by decide))), (fun h => c13 (bit_ne h (by decide))), (fun h => c14 (bit_ne h (by decide))), (fun h _ => absurd (hcl 15 _ rfl (bit_ne h (by decide)) ⟨9, .data⟩ (by simp) rfl) (by rw [hi]; decide)), (fun h _ => absurd (hcl 15 _ rfl (hcl 16 _ rfl (bit_ne h (by decide)) ⟨15, .data⟩ (by simp) rfl) ⟨9, .data⟩ (by simp) rfl) (by rw [hi]; decide)), (fun h => absurd (hcl 15 _ rfl (hcl 16 _ rfl (hcl 17 _ rfl (bit_ne h (by decide)) ⟨16, .data⟩ (by simp) rfl) ⟨15, .data⟩ (by simp) rfl) ⟨9, .data⟩ (by simp) rfl) (by rw [hi]; decide))⟩
              · obtain rfl := Option.some.inj ho
                have hsz : 10 < listed.size := by rw [hls]; decide
                have hbw := hbW
                refine inv_val (w' := w) (.slice (some ⟨g, 0, none⟩) m cp) rfl rfl rfl ?_
                exact ⟨s12, s114, s115, s116, s117, s118, s119, s120, s121, s122, s123, (.slice (some ⟨g, 0, none⟩) m cp), s125, s126, s127, s128, s129, s130, rfl, hbw, (fun h2 => cx (bit_ne h2 (by decide))), (fun h2 => cy (bit_ne h2 (by decide))), (fun h h2 => c0 (bit_ne h (by decide)) (bit_ne h2 (by decide))), (fun h => c1 (bit_ne h (by decide))), (fun h => c2 (bit_ne h (by decide))), (fun h => c3 (bit_ne h (by decide))), (fun h => c4 (bit_ne h (by decide))), (fun h => c5 (bit_ne h (by decide))), (fun h => c6 (bit_ne h (by decide))), (fun h => c7 (bit_ne h (by decide))), (fun h h2 => c8 (bit_ne h (by decide)) (bit_ne h2 (by decide))), (fun h h2 => c9 (bit_ne h (by decide)) (bit_ne h2 (by decide))), (fun _ => rfl), (fun h => c11 (bit_ne h (by decide))), (fun h => c12 (bit_ne h (by decide))), (fun h => c13 (bit_ne h (by decide))), (fun h => c14 (bit_ne h (by decide))), (fun h h2 => c15 (bit_ne h (by decide)) (bit_ne h2 (by decide))), (fun h h2 => c16 (bit_ne h (by decide)) (bit_ne h2 (by decide))), (fun h => c17 (bit_ne h (by decide)))⟩
              · obtain rfl := Option.some.inj ho
                have hsz : 11 < listed.size := by rw [hls]; decide
                have hbw := hbW
                refine inv_val (w' := w) (.int .i64 i) rfl rfl rfl ?_
                exact ⟨s12, s114, s115, s116, s117, s118, s119, s120, s121, s122, s123, s124, (.int .i64 i), s126, s127, s128, s129, s130, rfl, hbw, (fun h2 => cx (bit_ne h2 (by decide))), (fun h2 => cy (bit_ne h2 (by decide))), (fun h h2 => c0 (bit_ne h (by decide)) (bit_ne h2 (by decide))), (fun h => c1 (bit_ne h (by decide))), (fun h => c2 (bit_ne h (by decide))), (fun h => c3 (bit_ne h (by decide))), (fun h => c4 (bit_ne h (by decide))), (fun h => c5 (bit_ne h (by decide))), (fun h => c6 (bit_ne h (by decide))), (fun h => c7 (bit_ne h (by decide))), (fun h h2 => c8 (bit_ne h (by decide)) (bit_ne h2 (by decide))), (fun h h2 => c9 (bit_ne h (by decide)) (bit_ne h2 (by decide))), (fun h => c10 (bit_ne h (by decide))), (fun _ => rfl), (fun h => c12 (bit_ne h (by decide))), (fun h => c13 (bit_ne h (by decide))), (fun h => c14 (bit_ne h (by decide))), (fun h h2 => c15 (bit_ne h (by decide)) (bit_ne h2 (by decide))), (fun h h2 => c16 (bit_ne h (by decide)) (bit_ne h2 (by decide))), (fun h => c17 (bit_ne h (by decide)))⟩
              · obtain rfl := Option.some.inj ho
                have hsz : 12 < listed.size := by rw [hls]; decide
                have hdep10 : listed.getD 10 false = true := hall ⟨10, .data⟩ (by simp) (by rfl)
                obtain rfl := c10 hdep10
                have hdep11 : listed.getD 11 false = true := hall ⟨11, .data⟩ (by simp) (by rfl)
                obtain rfl := c11 hdep11
                have hbw := hbW
                refine inv_val (w' := w) (.pointer (some ⟨g, i * 33, none⟩)) rfl rfl (by go_simp) ?_
                exact ⟨s12, s114, s115, s116, s117, s118, s119, s120, s121, s122, s123, (.slice (some ⟨g, 0, none⟩) m cp), (.int .i64 i), (.pointer (some ⟨g, i * 33, none⟩)), s127, s128, s129, s130, rfl, hbw, (fun h2 => cx (bit_ne h2 (by decide))), (fun h2 => cy (bit_ne h2 (by decide))), (fun h h2 => c0 (bit_ne h (by decide)) (bit_ne h2 (by decide))), (fun h => c1 (bit_ne h (by decide))), (fun h => c2 (bit_ne h (by decide))), (fun h => c3 (bit_ne h (by decide))), (fun h => c4 (bit_ne h (by decide))), (fun h => c5 (bit_ne h (by decide))), (fun h => c6 (bit_ne h (by decide))), (fun h => c7 (bit_ne h (by decide))), (fun h h2 => c8 (bit_ne h (by decide)) (bit_ne h2 (by decide))), (fun h h2 => c9 (bit_ne h (by decide)) (bit_ne h2 (by decide))), (fun h => c10 (bit_ne h (by decide))), (fun h => c11 (bit_ne h (by decide))), (fun _ => rfl), (fun h => c13 (bit_ne h (by decide))), (fun h => c14 (bit_ne h (by decide))), (fun h h2 => c15 (bit_ne h (by decide)) (bit_ne h2 (by decide))), (fun h h2 => c16 (bit_ne h (by decide)) (bit_ne h2 (by decide))), (fun h => c17 (bit_ne h (by decide)))⟩
              · obtain rfl := Option.some.inj ho
                have hsz : 13 < listed.size := by rw [hls]; decide
                have hdep12 : listed.getD 12 false = true := hall ⟨12, .data⟩ (by simp) (by rfl)
                obtain rfl := c12 hdep12
                have hbw := hbW
                refine inv_val (w' := w) (.pointer (some ⟨g, i * 33, none⟩)) rfl rfl (by go_simp) ?_
                exact ⟨s12, s114, s115, s116, s117, s118, s119, s120, s121, s122, s123, s124, s125, (.pointer (some ⟨g, i * 33, none⟩)), (.pointer (some ⟨g, i * 33, none⟩)), s128, s129, s130, rfl, hbw, (fun h2 => cx (bit_ne h2 (by decide))), (fun h2 => cy (bit_ne h2 (by decide))), (fun h h2 => c0 (bit_ne h (by decide)) (bit_ne h2 (by decide))), (fun h => c1 (bit_ne h (by decide))), (fun h => c2 (bit_ne h (by decide))), (fun h => c3 (bit_ne h (by decide))), (fun h => c4 (bit_ne h (by decide))), (fun h => c5 (bit_ne h (by decide))), (fun h => c6 (bit_ne h (by decide))), (fun h => c7 (bit_ne h (by decide))), (fun h h2 => c8 (bit_ne h (by decide)) (bit_ne h2 (by decide))), (fun h h2 => c9 (bit_ne h (by decide)) (bit_ne h2 (by decide))), (fun h => c10 (bit_ne h (by decide))), (fun h => c11 (bit_ne h (by decide))), (fun h => c12 (bit_ne h (by decide))), (fun _ => rfl), (fun h => c14 (bit_ne h (by decide))), (fun h h2 => c15 (bit_ne h (by decide)) (bit_ne h2 (by decide))), (fun h h2 => c16 (bit_ne h (by decide)) (bit_ne h2 (by decide))), (fun h => c17 (bit_ne h (by decide)))⟩
              · obtain rfl := Option.some.inj ho
                have hsz : 14 < listed.size := by rw [hls]; decide
                have hdep13 : listed.getD 13 false = true := hall ⟨13, .data⟩ (by simp) (by rfl)
                obtain rfl := c13 hdep13
                have hbw := hbW
                refine inv_val (w' := w) (.string sx) rfl rfl (by have hq := hc w hbW; go_simp) ?_
                exact ⟨s12, s114, s115, s116, s117, s118, s119, s120, s121, s122, s123, s124, s125, s126, (.pointer (some ⟨g, i * 33, none⟩)), (.string sx), s129, s130, rfl, hbw, (fun h2 => cx (bit_ne h2 (by decide))), (fun h2 => cy (bit_ne h2 (by decide))), (fun h h2 => c0 (bit_ne h (by decide)) (bit_ne h2 (by decide))), (fun h => c1 (bit_ne h (by decide))), (fun h => c2 (bit_ne h (by decide))), (fun h => c3 (bit_ne h (by decide))), (fun h => c4 (bit_ne h (by decide))), (fun h => c5 (bit_ne h (by decide))), (fun h => c6 (bit_ne h (by decide))), (fun h => c7 (bit_ne h (by decide))), (fun h h2 => c8 (bit_ne h (by decide)) (bit_ne h2 (by decide))), (fun h h2 => c9 (bit_ne h (by decide)) (bit_ne h2 (by decide))), (fun h => c10 (bit_ne h (by decide))), (fun h => c11 (bit_ne h (by decide))), (fun h => c12 (bit_ne h (by decide))), (fun h => c13 (bit_ne h (by decide))), (fun _ => rfl), (fun h h2 => c15 (bit_ne h (by decide)) (bit_ne h2 (by decide))), (fun h h2 => c16 (bit_ne h (by decide)) (bit_ne h2 (by decide))), (fun h => c17 (bit_ne h (by decide)))⟩
              · obtain rfl := Option.some.inj ho
                have hsz : 15 < listed.size := by rw [hls]; decide
                have hdep9 : listed.getD 9 false = true := hall ⟨9, .data⟩ (by simp) (by rfl)
                obtain ⟨sp9, cap9, rfl, o9⟩ := c9 hdep9 hi
                have hdep14 : listed.getD 14 false = true := hall ⟨14, .data⟩ (by simp) (by rfl)
                obtain rfl := c14 hdep14
                refine inv_op rfl rfl (wp8s (.tmp 123) (.tmp 128) 27 9 5 rfl B Try.underlying27 Try.underlying9 info5 _ (L0 ++ [(sx.size : Int)]) rfl o9 sx rfl (by rw [hX1]; omega) (hsB hbW) ?_)
                intro sp cap w' ow hb' hgg
                have hg := Grew.of hgg
                have hbw : Below B wr w' := hbW.trans hb'
                have hown := o9
                rw [hX2] at ow ⊢
                exact ⟨s12, s114, s115, s116, s117, s118, s119, s120, s121, s122, (.slice sp9 (n8 + 1) cap9), s124, s125, s126, s127, (.string sx), (.slice sp (n8 + 1 + sx.size) cap), s130, rfl, hbw, (fun h2 => absurd hdep9 (by rw [bit_ne h2 (by decide)]; decide)), (fun h2 => cy (bit_ne h2 (by decide))), (fun _ h2 => absurd hdep9 (by rw [bit_ne h2 (by decide)]; decide)), (fun h => c1 (bit_ne h (by decide))), (fun h => c2 (bit_ne h (by decide))), (fun h => c3 (bit_ne h (by decide))), (fun h => c4 (bit_ne h (by decide))), (fun h => c5 (bit_ne h (by decide))), (fun h => c6 (bit_ne h (by decide))), (fun h => c7 (bit_ne h (by decide))), (fun _ h2 => absurd hdep9 (by rw [bit_ne h2 (by decide)]; decide)), (fun _ h2 => absurd (bit_on hsz) (by rw [h2]; decide)), (fun h => c10 (bit_ne h (by decide))), (fun h => c11 (bit_ne h (by decide))), (fun h => c12 (bit_ne h (by decide))), (fun h => c13 (bit_ne h (by decide))), (fun h => c14 (bit_ne h (by decide))), (fun _ _ => ⟨sp, cap, rfl, ow⟩), (fun h _ => absurd (hcl 16 _ rfl (bit_ne h (by decide)) ⟨15, .data⟩ (by simp) rfl) (by rw [hi]; decide)), (fun h => absurd (hcl 16 _ rfl (hcl 17 _ rfl (bit_ne h (by decide)) ⟨16, .data⟩ (by simp) rfl) ⟨15, .data⟩ (by simp) rfl) (by rw [hi]; decide))⟩
              · obtain rfl := Option.some.inj ho
                have hsz : 16 < listed.size := by rw [hls]; decide
                have hdep15 : listed.getD 15 false = true := hall ⟨15, .data⟩ (by simp) (by rfl)
                obtain ⟨sp15, cap15, rfl, o15⟩ := c15 hdep15 hi
                refine inv_op rfl rfl (wp8z (.tmp 129) (.const (.int .i64 32)) 27 3 5 rfl B Try.underlying27 Try.underlying3 info5 (L0 ++ [(sx.size : Int)] ++ bNum sx) sp15 _ cap15 rfl o15 (by rw [hX2]; omega) 32 rfl (by decide) (by rw [hX2]; omega) (hsB hbW) ?_)
                intro sp cap w' ow hb' hgg
                have hg := Grew.of hgg
                have hbw : Below B wr w' := hbW.trans hb'
                have hown := o15
                rw [hX3] at ow ⊢
                exact ⟨s12, s114, s115, s116, s117, s118, s119, s120, s121, s122, s123, s124, s125, s126, s127, s128, (.slice sp15 (n8 + 1 + sx.size) cap15), (.slice sp (n8 + 1 + sx.size + 32) cap), rfl, hbw, (fun h2 => absurd (hcl 15 _ rfl hdep15 ⟨9, .data⟩ (by simp) rfl) (by rw [bit_ne h2 (by decide)]; decide)), (fun h2 => cy (bit_ne h2 (by decide))), (fun _ h2 => absurd (hcl 15 _ rfl hdep15 ⟨9, .data⟩ (by simp) rfl) (by rw [bit_ne h2 (by decide)]; decide)), (fun h => c1 (bit_ne h (by decide))), (fun h => c2 (bit_ne h (by decide))), (fun h => c3 (bit_ne h (by decide))), (fun h => c4 (bit_ne h (by decide))), (fun h => c5 (bit_ne h (by decide))), (fun h => c6 (bit_ne h (by decide))), (fun h => c7 (bit_ne h (by decide))), (fun _ h2 => absurd (hcl 15 _ rfl hdep15 ⟨9, .data⟩ (by simp) rfl) (by rw [bit_ne h2 (by decide)]; decide)), (fun _ h2 => absurd hdep15 (by rw [bit_ne h2 (by decide)]; decide)), (fun h => c10 (bit_ne h (by decide))), (fun h => c11 (bit_ne h (by decide))), (fun h => c12 (bit_ne h (by decide))), (fun h => c13 (bit_ne h (by decide))), (fun h => c14 (bit_ne h (by decide))), (fun _ h2 => absurd (bit_on hsz) (by rw [h2]; decide)), (fun _ _ => ⟨sp, cap, rfl, ow⟩), (fun h => absurd (hcl 17 _ rfl (bit_ne h (by decide)) ⟨16, .data⟩ (by simp) rfl) (by rw [hi]; decide))⟩
              · obtain rfl := Option.some.inj ho
                have hsz : 17 < listed.size := by rw [hls]; decide
                have hdep16 : listed.getD 16 false = true := hall ⟨16, .data⟩ (by simp) (by rfl)
                obtain ⟨sp16, cap16, rfl, o16⟩ := c16 hdep16 hi
                have hbw := hbW
                refine inv_val (w' := w) (.slice sp16 (n8 + 1 + sx.size + 32) cap16) rfl rfl rfl ?_
                exact ⟨(.slice sp16 (n8 + 1 + sx.size + 32) cap16), s114, s115, s116, s117, s118, s119, s120, s121, s122, s123, s124, s125, s126, s127, s128, s129, (.slice sp16 (n8 + 1 + sx.size + 32) cap16), rfl, hbw, (fun h2 => absurd (hcl 15 _ rfl (hcl 16 _ rfl hdep16 ⟨15, .data⟩ (by simp) rfl) ⟨9, .data⟩ (by simp) rfl) (by rw [bit_ne h2 (by decide)]; decide)), (fun h2 => absurd (bit_on hsz) (by rw [h2]; decide)), (fun h h2 => c0 (bit_ne h (by decide)) (bit_ne h2 (by decide))), (fun h => c1 (bit_ne h (by decide))), (fun h => c2 (bit_ne h (by decide))), (fun h => c3 (bit_ne h (by decide))), (fun h => c4 (bit_ne h (by decide))), (fun h => c5 (bit_ne h (by decide))), (fun h => c6 (bit_ne h (by decide))), (fun h => c7 (bit_ne h (by decide))), (fun h h2 => c8 (bit_ne h (by decide)) (bit_ne h2 (by decide))), (fun h h2 => c9 (bit_ne h (by decide)) (bit_ne h2 (by decide))), (fun h => c10 (bit_ne h (by decide))), (fun h => c11 (bit_ne h (by decide))), (fun h => c12 (bit_ne h (by decide))), (fun h => c13 (bit_ne h (by decide))), (fun h => c14 (bit_ne h (by decide))), (fun h h2 => c15 (bit_ne h (by decide)) (bit_ne h2 (by decide))), (fun _ h2 => absurd (bit_on hsz) (by rw [h2]; decide)), (fun _ => ⟨sp16, cap16, rfl, o16⟩)⟩
            · intro listed a w hall hJ
              obtain ⟨s12, s114, s115, s116, s117, s118, s119, s120, s121, s122, s123, s124, s125, s126, s127, s128, s129, s130, rfl, hbW, cx, cy, c0, c1, c2, c3, c4, c5, c6, c7, c8, c9, c10, c11, c12, c13, c14, c15, c16, c17⟩ := hJ
              obtain rfl := c1 (hall 1 (by decide))
              obtain rfl := c2 (hall 2 (by decide))
              obtain rfl := c3 (hall 3 (by decide))
              obtain rfl := c4 (hall 4 (by decide))
              obtain rfl := c5 (hall 5 (by decide))
              obtain rfl := c6 (hall 6 (by decide))
              obtain rfl := c7 (hall 7 (by decide))
              obtain rfl := c10 (hall 10 (by decide))
              obtain rfl := c11 (hall 11 (by decide))
              obtain rfl := c12 (hall 12 (by decide))
              obtain rfl := c13 (hall 13 (by decide))
              obtain rfl := c14 (hall 14 (by decide))
              obtain ⟨sp17, cap17, rfl, o17⟩ := c17 (hall 17 (by decide))
              have bb := b6.trans (by rw [← hB]; exact hbW)
              clear hbW hc hc0 hsB hall
              generalize w = w7 at *
              go_wp2
              go_roundw
              case rel => exact ⟨i + 1, sp17, _, cap17, rfl, by go_num, by omega, by rw [htk, ← hB]; exact o17, by rw [htk]; exact hX3, by omega, bb⟩
              case measure => simp [intOf]; omega
          · obtain rfl : i = m := by omega
            have htk : E5.take i = E5 := by rw [← hl5]; exact List.take_length
            rw [htk] at ow hln
            have hEn := ea5.ents.below b6 (Nat.le_refl _)
            have b7 := b5.trans (b6.mono b5.size)
            have hdb := fun wy h => dir_bad E5 i (some ⟨g, 0, none⟩) cp wy hl5 h hok5 (by omega) (by rw [hch5]; decide)
            rw [hch5] at hdb
            clear ea5 hnd5 hpd b6 b5
            go_upto_region 31 with (go_at_call 22; (with_reducible refine Calls.mono (hdb _ hEn) ?_); rintro e7 w8 ⟨rfl, hb8⟩)
            have ow8 := ow.below hb8 (Nat.le_refl _)
            have hbt := ow8.bytes
            have hcc := ow8.cap
            have hpa := pdir_any (encD E5) sp n8 cw w8 hln (by omega) hcc hbt (encD_by hok5 (fun x hx => by have := (hn5 x hx).2; omega))
            rw [hde, hdo] at hpa
            have b8 := b7.trans (hb8.mono b7.size)
            clear hn5 hdb hEn ow ow8 hbt hcc hok5 hch5
            go_wp2_with (go_at_call 24; (with_reducible refine Calls.mono hpa ?_); rintro e9 w9 ⟨sp9, cap9, rfl, _, _, hb9⟩)
            go_ret
            exact ⟨rfl, b8.trans (hb9.mono b8.size)⟩
      · go_upto_region 25 with (first | (go_at_call 27; (with_reducible refine Calls.mono (hw1 _) ?_); rintro e1 w2 ⟨rfl, hw⟩; obtain rfl := hw.symm; clear hw) | (go_at_call 27; (with_reducible refine Calls.mono (hw2 _) ?_); rintro e1 w2 ⟨rfl, hw⟩; obtain rfl := hw.symm; clear hw))
        have ea5 := hea.name hget ⟨#[97, 47, 98]⟩ hok
        obtain ⟨hch5, hn5⟩ := spoil hg hget ⟨#[97, 47, 98]⟩ chk_ab (by decide)
        have b5 := b1.setCell (p := ⟨g, k * 33, none⟩) (by simpa using hwg) (.string ⟨#[97, 47, 98]⟩)
        have hl5 : (E.set k ⟨⟨#[97, 47, 98]⟩, e.node⟩).length = m := by simp [hEl]
        generalize E.set k ⟨⟨#[97, 47, 98]⟩, e.node⟩ = E5 at *
        generalize wr.setCell ⟨g, k * 33, none⟩ (.string ⟨#[97, 47, 98]⟩) = w5 at *
        clear hea hget hget2 hr1 hr2 ht1 ht2 he hf hie hif c1 f1 hnm0 hw1 hw2 hg hri hok hwg b1 hEl hkm hkmi hk
        have hok5 : EntsOk E5 := fun x hx => by
          obtain ⟨h2, h3⟩ := hn5 x hx
          refine ⟨by rw [h2]; rfl, fun y hy => ?_, by omega⟩
          rw [h2] at hy; simp [zer] at hy; omega
        have hnd5 : ∀ x ∈ E5, x.node.length = 32 := fun x hx => (hok5 x hx).1
        have hpd := pD_enc hnd5
        have hde : dErr (encD E5) = 10 := by rw [dErr, hpd]; exact hch5
        have hdo : dOut (encD E5) = [] := by rw [dOut, hpd]; simp only [hch5]; rfl
        go_wp2
        go_loopw [12, 13] (fun rv iv wr => ∃ (i : Nat) (sp : Option Addr) (n8 cw : Nat), rv = .slice sp n8 cw ∧ iv = .int .i64 i ∧ i ≤ m ∧ Own8 wr w5.heap.size 5 (.slice sp n8 cw) (encD (E5.take i)) ∧ (encD (E5.take i)).length = n8 ∧ n8 ≤ i * 82 ∧ Below w5.heap.size w5 wr) (fun _ iv _ => m - (intOf iv).toNat)
        case atStart => exact ⟨0, none, 0, 0, rfl, rfl, by omega, own8_none _ _, rfl, by omega, Below.refl _ _⟩
        case round =>
          obtain ⟨i, sp, n8, cw, rfl, rfl, hi, ow, hln, hsz, b6⟩ := hrel
          by_cases him : i < m
          · obtain ⟨x, hgx⟩ : ∃ x, E5[i]? = some x := ⟨_, List.getElem?_eq_getElem (by omega)⟩
            obtain ⟨hnd, hns⟩ := hn5 x (List.mem_of_getElem? hgx)
            obtain ⟨B, hB⟩ : ∃ B, B = w5.heap.size := ⟨_, rfl⟩
            have hrx := ea5.rng i x hgx
            have hc : ∀ wy, Below B wr wy → wy.cell? ⟨g, i * 33, none⟩ = some (.string x.name) := fun wy h => range0 (rangeAt_below hrx (b6.trans (by rw [← hB]; exact h)) (Nat.le_refl _))
            have hsB : ∀ {wy : World}, Below B wr wy → B ≤ wy.heap.size := fun h => by have := h.size; have := b6.size; omega
            have htk : encD (E5.take (i + 1)) = encD (E5.take i) ++ [(x.name.size : Int)] ++ bNum x.name ++ List.replicate 32 0 := by
              rw [List.take_add_one, hgx]; simp [encD, encE, hnd, zer]
            rw [← hB] at ow
            have him' : (i : Int) < m := by omega
            have hc0 := hc wr (Below.refl _ _)
            clear hrx ea5 hok5 hnd5 hpd hde hdo hgx hn5 hnd
            go_upto_region 29 with fail
            generalize encD (E5.take i) = L0 at *
            generalize x.name = sx at *
            have hsx : 0 ≤ (sx.size : Int) ∧ (sx.size : Int) ≤ 49 := by omega
            have hX1 : (L0 ++ [(sx.size : Int)]).length = n8 + 1 := by simp [hln]
            have hX2 : (L0 ++ [(sx.size : Int)] ++ bNum sx).length = n8 + 1 + sx.size := by simp [hln, bNum_len]; omega
            have hX3 : (L0 ++ [(sx.size : Int)] ++ bNum sx ++ List.replicate 32 0).length = n8 + 1 + sx.size + 32 := by simp [hln, bNum_len]; omega
            refine region_invFA  (by kernel_rfl) (by kernel_rfl) (fun a0 listed a w => ∃ s12 s114 s115 s116 s117 s118 s119 s120 s121 s122 s123 s124 s125 s126 s127 s128 s129 s130, a = (Act.put (Act.put (Act.put (Act.put (Act.put (Act.put (Act.put (Act.put (Act.put (Act.put (Act.put (Act.put (Act.put (Act.put (Act.put (Act.put (Act.put (Act.put a0 (some 12) s12) (some 114) s114) (some 115) s115) (some 116) s116) (some 117) s117) (some 118) s118) (some 119) s119) (some 120) s120) (some 121) s121) (some 122) s122) (some 123) s123) (some 124) s124) (some 125) s125) (some 126) s126) (some 127) s127) (some 128) s128) (some 129) s129) (some 130) s130) ∧ Below B wr w ∧ (listed.getD 9 false = false → Own8 w B 5 (.slice sp n8 cw) L0) ∧ (listed.getD 17 false = false → s12 = .slice sp n8 cw) ∧ (listed.getD 0 false = true → listed.getD 9 false = false → OwnS w B s114 n8 L0) ∧ (listed.getD 1 false = true → s115 = .slice (some ⟨g, 0, none⟩) m cp) ∧ (listed.getD 2 false = true → s116 = .int .i64 i) ∧ (listed.getD 3 false = true → s117 = .pointer (some ⟨g, i * 33, none⟩)) ∧ (listed.getD 4 false = true → s118 = .pointer (some ⟨g, i * 33, none⟩)) ∧ (listed.getD 5 false = true → s119 = .string sx) ∧ (listed.getD 6 false = true → s120 = .int .i64 (sx.size : Int)) ∧ (listed.getD 7 false = true → s121 = .int .u8 (sx.size : Int)) ∧ (listed.getD 8 false = true → listed.getD 9 false = false → LitS w B s122 1 [(sx.size : Int)]) ∧ (listed.getD 9 false = true → listed.getD 15 false = false → OwnS w B s123 (n8 + 1) (L0 ++ [(sx.size : Int)])) ∧ (listed.getD 10 false = true → s124 = .slice (some ⟨g, 0, none⟩) m cp) ∧ (listed.getD 11 false = true → s125 = .int .i64 i) ∧ (listed.getD 12 false = true → s126 = .pointer (some ⟨g, i * 33, none⟩)) ∧ (listed.getD 13 false = true → s127 = .pointer (some ⟨g, i * 33, none⟩)) ∧ (listed.getD 14 false = true → s128 = .string sx) ∧ (listed.getD 15 false = true → listed.getD 16 false = false → OwnS w B s129 (n8 + 1 + sx.size) (L0 ++ [(sx.size : Int)] ++ bNum sx)) ∧ (listed.getD 16 false = true → listed.getD 17 false = false → OwnS w B s130 (n8 + 1 + sx.size + 32) (L0 ++ [(sx.size : Int)] ++ bNum sx ++ List.replicate 32 0)) ∧ (listed.getD 17 false = true → OwnS w B s12 (n8 + 1 + sx.size + 32) (L0 ++ [(sx.size : Int)] ++ bNum sx ++ List.replicate 32 0))) ?_ ?_ ?_
            all_goals simp only [Act.put, List.setIfInBounds_toArray, List.set_cons_succ, List.set_cons_zero]
            · exact ⟨_, _, _, _, _, _, _, _, _, _, _, _, _, _, _, _, _, _, rfl, (Below.refl B _).drew, (fun _ => ow.drew1), (fun _ => rfl), (fun h => absurd h (by rw [getD_replicate_false]; decide)), (fun h => absurd h (by rw [getD_replicate_false]; decide)), (fun h => absurd h (by rw [getD_replicate_false]; decide)), (fun h => absurd h (by rw [getD_replicate_false]; decide)), (fun h => absurd h (by rw [getD_replicate_false]; decide)), (fun h => absurd h (by rw [getD_replicate_false]; decide)), (fun h => absurd h (by rw [getD_replicate_false]; decide)), (fun h => absurd h (by rw [getD_replicate_false]; decide)), (fun h => absurd h (by rw [getD_replicate_false]; decide)), (fun h => absurd h (by rw [getD_replicate_false]; decide)), (fun h => absurd h (by rw [getD_replicate_false]; decide)), (fun h => absurd h (by rw [getD_replicate_false]; decide)), (fun h => absurd h (by rw [getD_replicate_false]; decide)), (fun h => absurd h (by rw [getD_replicate_false]; decide)), (fun h => absurd h (by rw [getD_replicate_false]; decide)), (fun h => absurd h (by rw [getD_replicate_false]; decide)), (fun h => absurd h (by rw [getD_replicate_false]; decide)), (fun h => absurd h (by rw [getD_replicate_false]; decide))⟩
            · intro listed a w i o hls hJ hin ho hi hall hcl
              obtain ⟨s12, s114, s115, s116, s117, s118, s119, s120, s121, s122, s123, s124, s125, s126, s127, s128, s129, s130, rfl, hbW, cx, cy, c0, c1, c2, c3, c4, c5, c6, c7, c8, c9, c10, c11, c12, c13, c14, c15, c16, c17⟩ := hJ
              replace hin : i < 18 := hin
              rcases (by omega : i = 0 ∨ i = 1 ∨ i = 2 ∨ i = 3 ∨ i = 4 ∨ i = 5 ∨ i = 6 ∨ i = 7 ∨ i = 8 ∨ i = 9 ∨ i = 10 ∨ i = 11 ∨ i = 12 ∨ i = 13 ∨ i = 14 ∨ i = 15 ∨ i = 16 ∨ i = 17) with rfl | rfl | rfl | rfl | rfl | rfl | rfl | rfl | rfl | rfl | rfl | rfl | rfl | rfl | rfl | rfl | rfl | rfl
              · obtain rfl := Option.some.inj ho
                have hsz : 0 < listed.size := by rw [hls]; decide
                have hbw := hbW
                have nU : listed.getD 17 false = false := by
                  cases hq : listed.getD 17 false with
                  | false => rfl
                  | true => exact absurd (hcl 9 _ rfl (hcl 15 _ rfl (hcl 16 _ rfl (hcl 17 _ rfl hq ⟨16, .data⟩ (by simp) rfl) ⟨15, .data⟩ (by simp) rfl) ⟨9, .data⟩ (by simp) rfl) ⟨0, .data⟩ (by simp) rfl) (by rw [hi]; decide)
                obtain rfl := cy nU
                refine inv_val (w' := w) (.slice sp n8 cw) rfl rfl rfl ?_
                exact ⟨(.slice sp n8 cw), (.slice sp n8 cw), s115, s116, s117, s118, s119, s120, s121, s122, s123, s124, s125, s126, s127, s128, s129, s130, rfl, hbw, (fun h2 => cx (bit_ne h2 (by decide))), (fun _ => rfl), (fun _ h2 => ⟨sp, cw, rfl, cx (by first | exact bit_ne h2 (by decide) | exact h2)⟩), (fun h => c1 (bit_ne h (by decide))), (fun h => c2 (bit_ne h (by decide))), (fun h => c3 (bit_ne h (by decide))), (fun h => c4 (bit_ne h (by decide))), (fun h => c5 (bit_ne h (by decide))), (fun h => c6 (bit_ne h (by decide))), (fun h => c7 (bit_ne h (by decide))), (fun h h2 => c8 (bit_ne h (by decide)) (bit_ne h2 (by decide))), (fun h h2 => c9 (bit_ne h (by decide)) (bit_ne h2 (by decide))), (fun h => c10 (bit_ne h (by decide))), (fun h => c11 (bit_ne h (by decide))), (fun h => c12 (bit_ne h (by decide))), (fun h => c13 (bit_ne h (by decide))), (fun h => c14 (bit_ne h (by decide))), (fun h h2 => c15 (bit_ne h (by decide)) (bit_ne h2 (by decide))), (fun h h2 => c16 (bit_ne h (by decide)) (bit_ne h2 (by decide))), (fun h => c17 (bit_ne h (by decide)))⟩
              · obtain rfl := Option.some.inj ho
                have hsz : 1 < listed.size := by rw [hls]; decide
                have hbw := hbW
                refine inv_val (w' := w) (.slice (some ⟨g, 0, none⟩) m cp) rfl rfl rfl ?_
                exact ⟨s12, s114, (.slice (some ⟨g, 0, none⟩) m cp), s116, s117, s118, s119, s120, s121, s122, s123, s124, s125, s126, s127, s128, s129, s130, rfl, hbw, (fun h2 => cx (bit_ne h2 (by decide))), (fun h2 => cy (bit_ne h2 (by decide))), (fun h h2 => c0 (bit_ne h (by decide)) (bit_ne h2 (by decide))), (fun _ => rfl), (fun h => c2 (bit_ne h (by decide))), (fun h => c3 (bit_ne h (by decide))), (fun h => c4 (bit_ne h (by decide))), (fun h => c5 (bit_ne h (by decide))), (fun h => c6 (bit_ne h (by decide))), (fun h => c7 (bit_ne h (by decide))), (fun h h2 => c8 (bit_ne h (by decide)) (bit_ne h2 (by decide))), (fun h h2 => c9 (bit_ne h (by decide)) (bit_ne h2 (by decide))), (fun h => c10 (bit_ne h (by decide))), (fun h => c11 (bit_ne h (by decide))), (fun h => c12 (bit_ne h (by decide))), (fun h => c13 (bit_ne h (by decide))), (fun h => c14 (bit_ne h (by decide))), (fun h h2 => c15 (bit_ne h (by decide)) (bit_ne h2 (by decide))), (fun h h2 => c16 (bit_ne h (by decide)) (bit_ne h2 (by decide))), (fun h => c17 (bit_ne h (by decide)))⟩
              · obtain rfl := Option.some.inj ho
                have hsz : 2 < listed.size := by rw [hls]; decide
                have hbw := hbW
                refine inv_val (w' := w) (.int .i64 i) rfl rfl rfl ?_
                exact ⟨s12, s114, s115, (.int .i64 i), s117, s118, s119, s120, s121, s122, s123, s124, s125, s126, s127, s128, s129, s130, rfl, hbw, (fun h2 => cx (bit_ne h2 (by decide))), (fun h2 => cy (bit_ne h2 (by decide))), (fun h h2 => c0 (bit_ne h (by decide)) (bit_ne h2 (by decide))), (fun h => c1 (bit_ne h (by decide))), (fun _ => rfl), (fun h => c3 (bit_ne h (by decide))), (fun h => c4 (bit_ne h (by decide))), (fun h => c5 (bit_ne h (by decide))), (fun h => c6 (bit_ne h (by decide))), (fun h => c7 (bit_ne h (by decide))), (fun h h2 => c8 (bit_ne h (by decide)) (bit_ne h2 (by decide))), (fun h h2 => c9 (bit_ne h (by decide)) (bit_ne h2 (by decide))), (fun h => c10 (bit_ne h (by decide))), (fun h => c11 (bit_ne h (by decide))), (fun h => c12 (bit_ne h (by decide))), (fun h => c13 (bit_ne h (by decide))), (fun h => c14 (bit_ne h (by decide))), (fun h h2 => c15 (bit_ne h (by decide)) (bit_ne h2 (by decide))), (fun h h2 => c16 (bit_ne h (by decide)) (bit_ne h2 (by decide))), (fun h => c17 (bit_ne h (by decide)))⟩
              · obtain rfl := Option.some.inj ho
                have hsz : 3 < listed.size := by rw [hls]; decide
                have hdep1 : listed.getD 1 false = true := hall ⟨1, .data⟩ (by simp) (by rfl)
                obtain rfl := c1 hdep1
                have hdep2 : listed.getD 2 false = true := hall ⟨2, .data⟩ (by simp) (by rfl)
                obtain rfl := c2 hdep2
                have hbw := hbW
                refine inv_val (w' := w) (.pointer (some ⟨g, i * 33, none⟩)) rfl rfl (by go_simp) ?_
                exact ⟨s12, s114, (.slice (some ⟨g, 0, none⟩) m cp), (.int .i64 i), (.pointer (some ⟨g, i * 33, none⟩)), s118, s119, s120, s121, s122, s123, s124, s125, s126, s127, s128, s129, s130, rfl, hbw, (fun h2 => cx (bit_ne h2 (by decide))), (fun h2 => cy (bit_ne h2 (by decide))), (fun h h2 => c0 (bit_ne h (by decide)) (bit_ne h2 (by decide))), (fun h => c1 (bit_ne h (by decide))), (fun h => c2 (bit_ne h (by decide))), (fun _ => rfl), (fun h => c4 (bit_ne h (by decide))), (fun h => c5 (bit_ne h (by decide))), (fun h => c6 (bit_ne h (by decide))), (fun h => c7 (bit_ne h (by decide))), (fun h h2 => c8 (bit_ne h (by decide)) (bit_ne h2 (by decide))), (fun h h2 => c9 (bit_ne h (by decide)) (bit_ne h2 (by decide))), (fun h => c10 (bit_ne h (by decide))), (fun h => c11 (bit_ne h (by decide))), (fun h => c12 (bit_ne h (by decide))), (fun h => c13 (bit_ne h (by decide))), (fun h => c14 (bit_ne h (by decide))), (fun h h2 => c15 (bit_ne h (by decide)) (bit_ne h2 (by decide))), (fun h h2 => c16 (bit_ne h (by decide)) (bit_ne h2 (by decide))), (fun h => c17 (bit_ne h (by decide)))⟩
              · obtain rfl := Option.some.inj ho
                have hsz : 4 < listed.size := by rw [hls]; decide
                have hdep3 : listed.getD 3 false = true := hall ⟨3, .data⟩ (by simp) (by rfl)
                obtain rfl := c3 hdep3
                have hbw := hbW
                refine inv_val (w' := w) (.pointer (some ⟨g, i * 33, none⟩)) rfl rfl (by go_simp) ?_
                exact ⟨s12, s114, s115, s116, (.pointer (some ⟨g, i * 33, none⟩)), (.pointer (some ⟨g, i * 33, none⟩)), s119, s120, s121, s122, s123, s124, s125, s126, s127, s128, s129, s130, rfl, hbw, (fun h2 => cx (bit_ne h2 (by decide))), (fun h2 => cy (bit_ne h2 (by decide))), (fun h h2 => c0 (bit_ne h (by decide)) (bit_ne h2 (by decide))), (fun h => c1 (bit_ne h (by decide))), (fun h => c2 (bit_ne h (by decide))), (fun h => c3 (bit_ne h (by decide))), (fun _ => rfl), (fun h => c5 (bit_ne h (by decide))), (fun h => c6 (bit_ne h (by decide))), (fun h => c7 (bit_ne h (by decide))), (fun h h2 => c8 (bit_ne h (by decide)) (bit_ne h2 (by decide))), (fun h h2 => c9 (bit_ne h (by decide)) (bit_ne h2 (by decide))), (fun h => c10 (bit_ne h (by decide))), (fun h => c11 (bit_ne h (by decide))), (fun h => c12 (bit_ne h (by decide))), (fun h => c13 (bit_ne h (by decide))), (fun h => c14 (bit_ne h (by decide))), (fun h h2 => c15 (bit_ne h (by decide)) (bit_ne h2 (by decide))), (fun h h2 => c16 (bit_ne h (by decide)) (bit_ne h2 (by decide))), (fun h => c17 (bit_ne h (by decide)))⟩
              · obtain rfl := Option.some.inj ho
                have hsz : 5 < listed.size := by rw [hls]; decide
                have hdep4 : listed.getD 4 false = true := hall ⟨4, .data⟩ (by simp) (by rfl)
                obtain rfl := c4 hdep4
                have hbw := hbW
                refine inv_val (w' := w) (.string sx) rfl rfl (by have hq := hc w hbW; go_simp) ?_
                exact ⟨s12, s114, s115, s116, s117, (.pointer (some ⟨g, i * 33, none⟩)), (.string sx), s120, s121, s122, s123, s124, s125, s126, s127, s128, s129, s130, rfl, hbw, (fun h2 => cx (bit_ne h2 (by decide))), (fun h2 => cy (bit_ne h2 (by decide))), (fun h h2 => c0 (bit_ne h (by decide)) (bit_ne h2 (by decide))), (fun h => c1 (bit_ne h (by decide))), (fun h => c2 (bit_ne h (by decide))), (fun h => c3 (bit_ne h (by decide))), (fun h => c4 (bit_ne h (by decide))), (fun _ => rfl), (fun h => c6 (bit_ne h (by decide))), (fun h => c7 (bit_ne h (by decide))), (fun h h2 => c8 (bit_ne h (by decide)) (bit_ne h2 (by decide))), (fun h h2 => c9 (bit_ne h (by decide)) (bit_ne h2 (by decide))), (fun h => c10 (bit_ne h (by decide))), (fun h => c11 (bit_ne h (by decide))), (fun h => c12 (bit_ne h (by decide))), (fun h => c13 (bit_ne h (by decide))), (fun h => c14 (bit_ne h (by decide))), (fun h h2 => c15 (bit_ne h (by decide)) (bit_ne h2 (by decide))), (fun h h2 => c16 (bit_ne h (by decide)) (bit_ne h2 (by decide))), (fun h => c17 (bit_ne h (by decide)))⟩
              · obtain rfl := Option.some.inj ho
                have hsz : 6 < listed.size := by rw [hls]; decide
                have hdep5 : listed.getD 5 false = true := hall ⟨5, .data⟩ (by simp) (by rfl)
                obtain rfl := c5 hdep5
                have hbw := hbW
                refine inv_val (w' := w) (.int .i64 (sx.size : Int)) rfl rfl (by go_simp) ?_
                exact ⟨s12, s114, s115, s116, s117, s118, (.string sx), (.int .i64 (sx.size : Int)), s121, s122, s123, s124, s125, s126, s127, s128, s129, s130, rfl, hbw, (fun h2 => cx (bit_ne h2 (by decide))), (fun h2 => cy (bit_ne h2 (by decide))), (fun h h2 => c0 (bit_ne h (by decide)) (bit_ne h2 (by decide))), (fun h => c1 (bit_ne h (by decide))), (fun h => c2 (bit_ne h (by decide))), (fun h => c3 (bit_ne h (by decide))), (fun h => c4 (bit_ne h (by decide))), (fun h => c5 (bit_ne h (by decide))), (fun _ => rfl), (fun h => c7 (bit_ne h (by decide))), (fun h h2 => c8 (bit_ne h (by decide)) (bit_ne h2 (by decide))), (fun h h2 => c9 (bit_ne h (by decide)) (bit_ne h2 (by decide))), (fun h => c10 (bit_ne h (by decide))), (fun h => c11 (bit_ne h (by decide))), (fun h => c12 (bit_ne h (by decide))), (fun h => c13 (bit_ne h (by decide))), (fun h => c14 (bit_ne h (by decide))), (fun h h2 => c15 (bit_ne h (by decide)) (bit_ne h2 (by decide))), (fun h h2 => c16 (bit_ne h (by decide)) (bit_ne h2 (by decide))), (fun h => c17 (bit_ne h (by decide)))⟩
              · obtain rfl := Option.some.inj ho
                have hsz : 7 < listed.size := by rw [hls]; decide
                have hdep6 : listed.getD 6 false = true := hall ⟨6, .data⟩ (by simp) (by rfl)
                obtain rfl := c6 hdep6
                have hbw := hbW
                refine inv_val (w' := w) (.int .u8 (sx.size : Int)) rfl rfl (by go_simp; exact wrap88 hsx) ?_
                exact ⟨s12, s114, s115, s116, s117, s118, s119, (.int .i64 (sx.size : Int)), (.int .u8 (sx.size : Int)), s122, s123, s124, s125, s126, s127, s128, s129, s130, rfl, hbw, (fun h2 => cx (bit_ne h2 (by decide))), (fun h2 => cy (bit_ne h2 (by decide))), (fun h h2 => c0 (bit_ne h (by decide)) (bit_ne h2 (by decide))), (fun h => c1 (bit_ne h (by decide))), (fun h => c2 (bit_ne h (by decide))), (fun h => c3 (bit_ne h (by decide))), (fun h => c4 (bit_ne h (by decide))), (fun h => c5 (bit_ne h (by decide))), (fun h => c6 (bit_ne h (by decide))), (fun _ => rfl), (fun h h2 => c8 (bit_ne h (by decide)) (bit_ne h2 (by decide))), (fun h h2 => c9 (bit_ne h (by decide)) (bit_ne h2 (by decide))), (fun h => c10 (bit_ne h (by decide))), (fun h => c11 (bit_ne h (by decide))), (fun h => c12 (bit_ne h (by decide))), (fun h => c13 (bit_ne h (by decide))), (fun h => c14 (bit_ne h (by decide))), (fun h h2 => c15 (bit_ne h (by decide)) (bit_ne h2 (by decide))), (fun h h2 => c16 (bit_ne h (by decide)) (bit_ne h2 (by decide))), (fun h => c17 (bit_ne h (by decide)))⟩
              · obtain rfl := Option.some.inj ho
                have hsz : 8 < listed.size := by rw [hls]; decide
                have hdep7 : listed.getD 7 false = true := hall ⟨7, .data⟩ (by simp) (by rfl)
                obtain rfl := c7 hdep7
                have hbw : Below B wr (w.alloc (.cells (v8 [(sx.size : Int)]) 5)) := hbW.alloc (hsB hbW) _
                refine inv_val (.slice (some ⟨w.heap.size, 0, none⟩) 1 1) (w' := w.alloc (.cells (v8 [(sx.size : Int)]) 5)) rfl rfl (by kernel_rfl) ?_
                exact ⟨s12, s114, s115, s116, s117, s118, s119, s120, (.int .u8 (sx.size : Int)), (.slice (some ⟨w.heap.size, 0, none⟩) 1 1), s123, s124, s125, s126, s127, s128, s129, s130, rfl, hbw, (fun h2 => (cx (bit_ne h2 (by decide))).alloc _), (fun h2 => cy (bit_ne h2 (by decide))), (fun h h2 => (c0 (bit_ne h (by decide)) (bit_ne h2 (by decide))).alloc _), (fun h => c1 (bit_ne h (by decide))), (fun h => c2 (bit_ne h (by decide))), (fun h => c3 (bit_ne h (by decide))), (fun h => c4 (bit_ne h (by decide))), (fun h => c5 (bit_ne h (by decide))), (fun h => c6 (bit_ne h (by decide))), (fun h => c7 (bit_ne h (by decide))), (fun _ _ => LitS.new w B (hsB hbW) 1 [(sx.size : Int)] (by rfl)), (fun h h2 => (c9 (bit_ne h (by decide)) (bit_ne h2 (by decide))).alloc _), (fun h => c10 (bit_ne h (by decide))), (fun h => c11 (bit_ne h (by decide))), (fun h => c12 (bit_ne h (by decide))), (fun h => c13 (bit_ne h (by decide))), (fun h => c14 (bit_ne h (by decide))), (fun h h2 => (c15 (bit_ne h (by decide)) (bit_ne h2 (by decide))).alloc _), (fun h h2 => (c16 (bit_ne h (by decide)) (bit_ne h2 (by decide))).alloc _), (fun h => (c17 (bit_ne h (by decide))).alloc _)⟩
              · obtain rfl := Option.some.inj ho
                have hsz : 9 < listed.size := by rw [hls]; decide
                have hdep0 : listed.getD 0 false = true := hall ⟨0, .data⟩ (by simp) (by rfl)
                obtain ⟨sp0, cap0, rfl, o0⟩ := c0 hdep0 hi
                have hdep8 : listed.getD 8 false = true := hall ⟨8, .data⟩ (by simp) (by rfl)
                obtain ⟨b8, rfl, r8, hb8⟩ := c8 hdep8 hi
                refine inv_op rfl rfl (wp8g (.tmp 114) (.tmp 122) 27 5 rfl B Try.underlying27 info5 _ L0 rfl o0 (some ⟨b8, 0, none⟩) 1 1 [(sx.size : Int)] rfl rfl (fun h => by cases h) r8.bytes (by first | omega | simp | (simp; omega)) (hsB hbW) ?_)
                intro sp cap w' ow hb' hgg
                have hg := Grew.of hgg
                have hbw : Below B wr w' := hbW.trans hb'
                have hown := o0
                rw [hX1] at ow ⊢
                exact ⟨s12, (.slice sp0 n8 cap0), s115, s116, s117, s118, s119, s120, s121, (.slice (some ⟨b8, 0, none⟩) 1 1), (.slice sp (n8 + 1) cap), s124, s125, s126, s127, s128, s129, s130, rfl, hbw, (fun h2 => absurd (bit_on hsz) (by rw [h2]; decide)), (fun h2 => cy (bit_ne h2 (by decide))), (fun _ h2 => absurd (bit_on hsz) (by rw [h2]; decide)), (fun h => c1 (bit_ne h (by decide))), (fun h => c2 (bit_ne h (by decide))), (fun h => c3 (bit_ne h (by decide))), (fun h => c4 (bit_ne h (by decide))), (fun h => c5 (bit_ne h (by decide))), (fun h => c6 (bit_ne h (by decide))), (fun h => c7 (bit_ne h (by decide))), (fun _ h2 => absurd (bit_on hsz) (by rw [h2]; decide)), (fun _ _ => ⟨sp, cap, rfl, ow⟩), (fun h => c10 (bit_ne h (by decide))), (fun h => c11 (bit_ne h (by decide))), (fun h => c12 (bit_ne h (by decide))), (fun h => c13 (bit_ne h (by decide))), (fun h => c14 (bit_ne h (by decide))), (fun h _ => absurd (hcl 15 _ rfl (bit_ne h (by decide)) ⟨9, .data⟩ (by simp) rfl) (by rw [hi]; decide)), (fun h _ => absurd (hcl 15 _ rfl (hcl 16 _ rfl (bit_ne h (by decide)) ⟨15, .data⟩ (by simp) rfl) ⟨9, .data⟩ (by simp) rfl) (by rw [hi]; decide)), (fun h => absurd (hcl 15 _ rfl (hcl 16 _ rfl (hcl 17 _ rfl (bit_ne h (by decide)) ⟨16, .data⟩ (by simp) rfl) ⟨15, .data⟩ (by simp) rfl) ⟨9, .data⟩ (by simp) rfl) (by rw [hi]; decide))⟩
              · obtain rfl := Option.some.inj ho
                have hsz : 10 < listed.size := by rw [hls]; decide
                have hbw := hbW
                refine inv_val (w' := w) (.slice (some ⟨g, 0, none⟩) m cp) rfl rfl rfl ?_
                exact ⟨s12, s114, s115, s116, s117, s118, s119, s120, s121, s122, s123, (.slice (some ⟨g, 0, none⟩) m cp), s125, s126, s127, s128, s129, s130, rfl, hbw, (fun h2 => cx (bit_ne h2 (by decide))), (fun h2 => cy (bit_ne h2 (by decide))), (fun h h2 => c0 (bit_ne h (by decide)) (bit_ne h2 (by decide))), (fun h => c1 (bit_ne h (by decide))), (fun h => c2 (bit_ne h (by decide))), (fun h => c3 (bit_ne h (by decide))), (fun h => c4 (bit_ne h (by decide))), (fun h => c5 (bit_ne h (by decide))), (fun h => c6 (bit_ne h (by decide))), (fun h => c7 (bit_ne h (by decide))), (fun h h2 => c8 (bit_ne h (by decide)) (bit_ne h2 (by decide))), (fun h h2 => c9 (bit_ne h (by decide)) (bit_ne h2 (by decide))), (fun _ => rfl), (fun h => c11 (bit_ne h (by decide))), (fun h => c12 (bit_ne h (by decide))), (fun h => c13 (bit_ne h (by decide))), (fun h => c14 (bit_ne h (by decide))), (fun h h2 => c15 (bit_ne h (by decide)) (bit_ne h2 (by decide))), (fun h h2 => c16 (bit_ne h (by decide)) (bit_ne h2 (by decide))), (fun h => c17 (bit_ne h (by decide)))⟩
              · obtain rfl := Option.some.inj ho
                have hsz : 11 < listed.size := by rw [hls]; decide
                have hbw := hbW
                refine inv_val (w' := w) (.int .i64 i) rfl rfl rfl ?_
                exact ⟨s12, s114, s115, s116, s117, s118, s119, s120, s121, s122, s123, s124, (.int .i64 i), s126, s127, s128, s129, s130, rfl, hbw, (fun h2 => cx (bit_ne h2 (by decide))), (fun h2 => cy (bit_ne h2 (by decide))), (fun h h2 => c0 (bit_ne h (by decide)) (bit_ne h2 (by decide))), (fun h => c1 (bit_ne h (by decide))), (fun h => c2 (bit_ne h (by decide))), (fun h => c3 (bit_ne h (by decide))), (fun h => c4 (bit_ne h (by decide))), (fun h => c5 (bit_ne h (by decide))), (fun h => c6 (bit_ne h (by decide))), (fun h => c7 (bit_ne h (by decide))), (fun h h2 => c8 (bit_ne h (by decide)) (bit_ne h2 (by decide))), (fun h h2 => c9 (bit_ne h (by decide)) (bit_ne h2 (by decide))), (fun h => c10 (bit_ne h (by decide))), (fun _ => rfl), (fun h => c12 (bit_ne h (by decide))), (fun h => c13 (bit_ne h (by decide))), (fun h => c14 (bit_ne h (by decide))), (fun h h2 => c15 (bit_ne h (by decide)) (bit_ne h2 (by decide))), (fun h h2 => c16 (bit_ne h (by decide)) (bit_ne h2 (by decide))), (fun h => c17 (bit_ne h (by decide)))⟩
              · obtain rfl := Option.some.inj ho
                have hsz : 12 < listed.size := by rw [hls]; decide
                have hdep10 : listed.getD 10 false = true := hall ⟨10, .data⟩ (by simp) (by rfl)
                obtain rfl := c10 hdep10
                have hdep11 : listed.getD 11 false = true := hall ⟨11, .data⟩ (by simp) (by rfl)
                obtain rfl := c11 hdep11
                have hbw := hbW
                refine inv_val (w' := w) (.pointer (some ⟨g, i * 33, none⟩)) rfl rfl (by go_simp) ?_
                exact ⟨s12, s114, s115, s116, s117, s118, s119, s120, s121, s122, s123, (.slice (some ⟨g, 0, none⟩) m cp), (.int .i64 i), (.pointer (some ⟨g, i * 33, none⟩)), s127, s128, s129, s130, rfl, hbw, (fun h2 => cx (bit_ne h2 (by decide))), (fun h2 => cy (bit_ne h2 (by decide))), (fun h h2 => c0 (bit_ne h (by decide)) (bit_ne h2 (by decide))), (fun h => c1 (bit_ne h (by decide))), (fun h => c2 (bit_ne h (by decide))), (fun h => c3 (bit_ne h (by decide))), (fun h => c4 (bit_ne h (by decide))), (fun h => c5 (bit_ne h (by decide))), (fun h => c6 (bit_ne h (by decide))), (fun h => c7 (bit_ne h (by decide))), (fun h h2 => c8 (bit_ne h (by decide)) (bit_ne h2 (by decide))), (fun h h2 => c9 (bit_ne h (by decide)) (bit_ne h2 (by decide))), (fun h => c10 (bit_ne h (by decide))), (fun h => c11 (bit_ne h (by decide))), (fun _ => rfl), (fun h => c13 (bit_ne h (by decide))), (fun h => c14 (bit_ne h (by decide))), (fun h h2 => c15 (bit_ne h (by decide)) (bit_ne h2 (by decide))), (fun h h2 => c16 (bit_ne h (by decide)) (bit_ne h2 (by decide))), (fun h => c17 (bit_ne h (by decide)))⟩
              · obtain rfl := Option.some.inj ho
                have hsz : 13 < listed.size := by rw [hls]; decide
                have hdep12 : listed.getD 12 false = true := hall ⟨12, .data⟩ (by simp) (by rfl)
                obtain rfl := c12 hdep12
                have hbw := hbW
                refine inv_val (w' := w) (.pointer (some ⟨g, i * 33, none⟩)) rfl rfl (by go_simp) ?_
                exact ⟨s12, s114, s115, s116, s117, s118, s119, s120, s121, s122, s123, s124, s125, (.pointer (some ⟨g, i * 33, none⟩)), (.pointer (some ⟨g, i * 33, none⟩)), s128, s129, s130, rfl, hbw, (fun h2 => cx (bit_ne h2 (by decide))), (fun h2 => cy (bit_ne h2 (by decide))), (fun h h2 => c0 (bit_ne h (by decide)) (bit_ne h2 (by decide))), (fun h => c1 (bit_ne h (by decide))), (fun h => c2 (bit_ne h (by decide))), (fun h => c3 (bit_ne h (by decide))), (fun h => c4 (bit_ne h (by decide))), (fun h => c5 (bit_ne h (by decide))), (fun h => c6 (bit_ne h (by decide))), (fun h => c7 (bit_ne h (by decide))), (fun h h2 => c8 (bit_ne h (by decide)) (bit_ne h2 (by decide))), (fun h h2 => c9 (bit_ne h (by decide)) (bit_ne h2 (by decide))), (fun h => c10 (bit_ne h (by decide))), (fun h => c11 (bit_ne h (by decide))), (fun h => c12 (bit_ne h (by decide))), (fun _ => rfl), (fun h => c14 (bit_ne h (by decide))), (fun h h2 => c15 (bit_ne h (by decide)) (bit_ne h2 (by decide))), (fun h h2 => c16 (bit_ne h (by decide)) (bit_ne h2 (by decide))), (fun h => c17 (bit_ne h (by decide)))⟩
              · obtain rfl := Option.some.inj ho
                have hsz : 14 < listed.size := by rw [hls]; decide
                have hdep13 : listed.getD 13 false = true := hall ⟨13, .data⟩ (by simp) (by rfl)
                obtain rfl := c13 hdep13
                have hbw := hbW
                refine inv_val (w' := w) (.string sx) rfl rfl (by have hq := hc w hbW; go_simp) ?_
                exact ⟨s12, s114, s115, s116, s117, s118, s119, s120, s121, s122, s123, s124, s125, s126, (.pointer (some ⟨g, i * 33, none⟩)), (.string sx), s129, s130, rfl, hbw, (fun h2 => cx (bit_ne h2 (by decide))), (fun h2 => cy (bit_ne h2 (by decide))), (fun h h2 => c0 (bit_ne h (by decide)) (bit_ne h2 (by decide))), (fun h => c1 (bit_ne h (by decide))), (fun h => c2 (bit_ne h (by decide))), (fun h => c3 (bit_ne h (by decide))), (fun h => c4 (bit_ne h (by decide))), (fun h => c5 (bit_ne h (by decide))), (fun h => c6 (bit_ne h (by decide))), (fun h => c7 (bit_ne h (by decide))), (fun h h2 => c8 (bit_ne h (by decide)) (bit_ne h2 (by decide))), (fun h h2 => c9 (bit_ne h (by decide)) (bit_ne h2 (by decide))), (fun h => c10 (bit_ne h (by decide))), (fun h => c11 (bit_ne h (by decide))), (fun h => c12 (bit_ne h (by decide))), (fun h => c13 (bit_ne h (by decide))), (fun _ => rfl), (fun h h2 => c15 (bit_ne h (by decide)) (bit_ne h2 (by decide))), (fun h h2 => c16 (bit_ne h (by decide)) (bit_ne h2 (by decide))), (fun h => c17 (bit_ne h (by decide)))⟩
              · obtain rfl := Option.some.inj ho
                have hsz : 15 < listed.size := by rw [hls]; decide
                have hdep9 : listed.getD 9 false = true := hall ⟨9, .data⟩ (by simp) (by rfl)
                obtain ⟨sp9, cap9, rfl, o9⟩ := c9 hdep9 hi
                have hdep14 : listed.getD 14 false = true := hall ⟨14, .data⟩ (by simp) (by rfl)
                obtain rfl := c14 hdep14
                refine inv_op rfl rfl (wp8s (.tmp 123) (.tmp 128) 27 9 5 rfl B Try.underlying27 Try.underlying9 info5 _ (L0 ++ [(sx.size : Int)]) rfl o9 sx rfl (by rw [hX1]; omega) (hsB hbW) ?_)
                intro sp cap w' ow hb' hgg
                have hg := Grew.of hgg
                have hbw : Below B wr w' := hbW.trans hb'
                have hown := o9
                rw [hX2] at ow ⊢
                exact ⟨s12, s114, s115, s116, s117, s118, s119, s120, s121, s122, (.slice sp9 (n8 + 1) cap9), s124, s125, s126, s127, (.string sx), (.slice sp (n8 + 1 + sx.size) cap), s130, rfl, hbw, (fun h2 => absurd hdep9 (by rw [bit_ne h2 (by decide)]; decide)), (fun h2 => cy (bit_ne h2 (by decide))), (fun _ h2 => absurd hdep9 (by rw [bit_ne h2 (by decide)]; decide)), (fun h => c1 (bit_ne h (by decide))), (fun h => c2 (bit_ne h (by decide))), (fun h => c3 (bit_ne h (by decide))), (fun h => c4 (bit_ne h (by decide))), (fun h => c5 (bit_ne h (by decide))), (fun h => c6 (bit_ne h (by decide))), (fun h => c7 (bit_ne h (by decide))), (fun _ h2 => absurd hdep9 (by rw [bit_ne h2 (by decide)]; decide)), (fun _ h2 => absurd (bit_on hsz) (by rw [h2]; decide)), (fun h => c10 (bit_ne h (by decide))), (fun h => c11 (bit_ne h (by decide))), (fun h => c12 (bit_ne h (by decide))), (fun h => c13 (bit_ne h (by decide))), (fun h => c14 (bit_ne h (by decide))), (fun _ _ => ⟨sp, cap, rfl, ow⟩), (fun h _ => absurd (hcl 16 _ rfl (bit_ne h (by decide)) ⟨15, .data⟩ (by simp) rfl) (by rw [hi]; decide)), (fun h => absurd (hcl 16 _ rfl (hcl 17 _ rfl (bit_ne h (by decide)) ⟨16, .data⟩ (by simp) rfl) ⟨15, .data⟩ (by simp) rfl) (by rw [hi]; decide))⟩
              · obtain rfl := Option.some.inj ho
                have hsz : 16 < listed.size := by rw [hls]; decide
                have hdep15 : listed.getD 15 false = true := hall ⟨15, .data⟩ (by simp) (by rfl)
                obtain ⟨sp15, cap15, rfl, o15⟩ := c15 hdep15 hi
                refine inv_op rfl rfl (wp8z (.tmp 129) (.const (.int .i64 32)) 27 3 5 rfl B Try.underlying27 Try.underlying3 info5 (L0 ++ [(sx.size : Int)] ++ bNum sx) sp15 _ cap15 rfl o15 (by rw [hX2]; omega) 32 rfl (by decide) (by rw [hX2]; omega) (hsB hbW) ?_)
                intro sp cap w' ow hb' hgg
                have hg := Grew.of hgg
                have hbw : Below B wr w' := hbW.trans hb'
                have hown := o15
                rw [hX3] at ow ⊢
                exact ⟨s12, s114, s115, s116, s117, s118, s119, s120, s121, s122, s123, s124, s125, s126, s127, s128, (.slice sp15 (n8 + 1 + sx.size) cap15), (.slice sp (n8 + 1 + sx.size + 32) cap), rfl, hbw, (fun h2 => absurd (hcl 15 _ rfl hdep15 ⟨9, .data⟩ (by simp) rfl) (by rw [bit_ne h2 (by decide)]; decide)), (fun h2 => cy (bit_ne h2 (by decide))), (fun _ h2 => absurd (hcl 15 _ rfl hdep15 ⟨9, .data⟩ (by simp) rfl) (by rw [bit_ne h2 (by decide)]; decide)), (fun h => c1 (bit_ne h (by decide))), (fun h => c2 (bit_ne h (by decide))), (fun h => c3 (bit_ne h (by decide))), (fun h => c4 (bit_ne h (by decide))), (fun h => c5 (bit_ne h (by decide))), (fun h => c6 (bit_ne h (by decide))), (fun h => c7 (bit_ne h (by decide))), (fun _ h2 => absurd (hcl 15 _ rfl hdep15 ⟨9, .data⟩ (by simp) rfl) (by rw [bit_ne h2 (by decide)]; decide)), (fun _ h2 => absurd hdep15 (by rw [bit_ne h2 (by decide)]; decide)), (fun h => c10 (bit_ne h (by decide))), (fun h => c11 (bit_ne h (by decide))), (fun h => c12 (bit_ne h (by decide))), (fun h => c13 (bit_ne h (by decide))), (fun h => c14 (bit_ne h (by decide))), (fun _ h2 => absurd (bit_on hsz) (by rw [h2]; decide)), (fun _ _ => ⟨sp, cap, rfl, ow⟩), (fun h => absurd (hcl 17 _ rfl (bit_ne h (by decide)) ⟨16, .data⟩ (by simp) rfl) (by rw [hi]; decide))⟩
              · obtain rfl := Option.some.inj ho
                have hsz : 17 < listed.size := by rw [hls]; decide
                have hdep16 : listed.getD 16 false = true := hall ⟨16, .data⟩ (by simp) (by rfl)
                obtain ⟨sp16, cap16, rfl, o16⟩ := c16 hdep16 hi
                have hbw := hbW
                refine inv_val (w' := w) (.slice sp16 (n8 + 1 + sx.size + 32) cap16) rfl rfl rfl ?_
                exact ⟨(.slice sp16 (n8 + 1 + sx.size + 32) cap16), s114, s115, s116, s117, s118, s119, s120, s121, s122, s123, s124, s125, s126, s127, s128, s129, (.slice sp16 (n8 + 1 + sx.size + 32) cap16), rfl, hbw, (fun h2 => absurd (hcl 15 _ rfl (hcl 16 _ rfl hdep16 ⟨15, .data⟩ (by simp) rfl) ⟨9, .data⟩ (by simp) rfl) (by rw [bit_ne h2 (by decide)]; decide)), (fun h2 => absurd (bit_on hsz) (by rw [h2]; decide)), (fun h h2 => c0 (bit_ne h (by decide)) (bit_ne h2 (by decide))), (fun h => c1 (bit_ne h (by decide))), (fun h => c2 (bit_ne h (by decide))), (fun h => c3 (bit_ne h (by decide))), (fun h => c4 (bit_ne h (by decide))), (fun h => c5 (bit_ne h (by decide))), (fun h => c6 (bit_ne h (by decide))), (fun h => c7 (bit_ne h (by decide))), (fun h h2 => c8 (bit_ne h (by decide)) (bit_ne h2 (by decide))), (fun h h2 => c9 (bit_ne h (by decide)) (bit_ne h2 (by decide))), (fun h => c10 (bit_ne h (by decide))), (fun h => c11 (bit_ne h (by decide))), (fun h => c12 (bit_ne h (by decide))), (fun h => c13 (bit_ne h (by decide))), (fun h => c14 (bit_ne h (by decide))), (fun h h2 => c15 (bit_ne h (by decide)) (bit_ne h2 (by decide))), (fun _ h2 => absurd (bit_on hsz) (by rw [h2]; decide)), (fun _ => ⟨sp16, cap16, rfl, o16⟩)⟩
            · intro listed a w hall hJ
              obtain ⟨s12, s114, s115, s116, s117, s118, s119, s120, s121, s122, s123, s124, s125, s126, s127, s128, s129, s130, rfl, hbW, cx, cy, c0, c1, c2, c3, c4, c5, c6, c7, c8, c9, c10, c11, c12, c13, c14, c15, c16, c17⟩ := hJ
              obtain rfl := c1 (hall 1 (by decide))
              obtain rfl := c2 (hall 2 (by decide))
              obtain rfl := c3 (hall 3 (by decide))
              obtain rfl := c4 (hall 4 (by decide))
              obtain rfl := c5 (hall 5 (by decide))
              obtain rfl := c6 (hall 6 (by decide))
              obtain rfl := c7 (hall 7 (by decide))
              obtain rfl := c10 (hall 10 (by decide))
              obtain rfl := c11 (hall 11 (by decide))
              obtain rfl := c12 (hall 12 (by decide))
              obtain rfl := c13 (hall 13 (by decide))
              obtain rfl := c14 (hall 14 (by decide))
              obtain ⟨sp17, cap17, rfl, o17⟩ := c17 (hall 17 (by decide))
              have bb := b6.trans (by rw [← hB]; exact hbW)
              clear hbW hc hc0 hsB hall
              generalize w = w7 at *
              go_wp2
              go_roundw
              case rel => exact ⟨i + 1, sp17, _, cap17, rfl, by go_num, by omega, by rw [htk, ← hB]; exact o17, by rw [htk]; exact hX3, by omega, bb⟩
              case measure => simp [intOf]; omega
          · obtain rfl : i = m := by omega
            have htk : E5.take i = E5 := by rw [← hl5]; exact List.take_length
            rw [htk] at ow hln
            have hEn := ea5.ents.below b6 (Nat.le_refl _)
            have b7 := b5.trans (b6.mono b5.size)
            have hdb := fun wy h => dir_bad E5 i (some ⟨g, 0, none⟩) cp wy hl5 h hok5 (by omega) (by rw [hch5]; decide)
            rw [hch5] at hdb
            clear ea5 hnd5 hpd b6 b5
            go_upto_region 31 with (go_at_call 22; (with_reducible refine Calls.mono (hdb _ hEn) ?_); rintro e7 w8 ⟨rfl, hb8⟩)
            have ow8 := ow.below hb8 (Nat.le_refl _)
            have hbt := ow8.bytes
            have hcc := ow8.cap
            have hpa := pdir_any (encD E5) sp n8 cw w8 hln (by omega) hcc hbt (encD_by hok5 (fun x hx => by have := (hn5 x hx).2; omega))
            rw [hde, hdo] at hpa
            have b8 := b7.trans (hb8.mono b7.size)
            clear hn5 hdb hEn ow ow8 hbt hcc hok5 hch5
            go_wp2_with (go_at_call 24; (with_reducible refine Calls.mono hpa ?_); rintro e9 w9 ⟨sp9, cap9, rfl, _, _, hb9⟩)
            go_ret
            exact ⟨rfl, b8.trans (hb9.mono b8.size)⟩
      · go_upto_region 25 with (first | (go_at_call 27; (with_reducible refine Calls.mono (hw1 _) ?_); rintro e1 w2 ⟨rfl, hw⟩; obtain rfl := hw.symm; clear hw) | (go_at_call 27; (with_reducible refine Calls.mono (hw2 _) ?_); rintro e1 w2 ⟨rfl, hw⟩; obtain rfl := hw.symm; clear hw))
        have ea5 := hea.name hget ⟨#[]⟩ hok
        obtain ⟨hch5, hn5⟩ := spoil hg hget ⟨#[]⟩ chk_no (by decide)
        have b5 := b1.setCell (p := ⟨g, k * 33, none⟩) (by simpa using hwg) (.string ⟨#[]⟩)
        have hl5 : (E.set k ⟨⟨#[]⟩, e.node⟩).length = m := by simp [hEl]
        generalize E.set k ⟨⟨#[]⟩, e.node⟩ = E5 at *
        generalize wr.setCell ⟨g, k * 33, none⟩ (.string ⟨#[]⟩) = w5 at *
        clear hea hget hget2 hr1 hr2 ht1 ht2 he hf hie hif c1 f1 hnm0 hw1 hw2 hg hri hok hwg b1 hEl hkm hkmi hk
        have hok5 : EntsOk E5 := fun x hx => by
          obtain ⟨h2, h3⟩ := hn5 x hx
          refine ⟨by rw [h2]; rfl, fun y hy => ?_, by omega⟩
          rw [h2] at hy; simp [zer] at hy; omega
        have hnd5 : ∀ x ∈ E5, x.node.length = 32 := fun x hx => (hok5 x hx).1
        have hpd := pD_enc hnd5
        have hde : dErr (encD E5) = 10 := by rw [dErr, hpd]; exact hch5
        have hdo : dOut (encD E5) = [] := by rw [dOut, hpd]; simp only [hch5]; rfl
        go_wp2
        go_loopw [12, 13] (fun rv iv wr => ∃ (i : Nat) (sp : Option Addr) (n8 cw : Nat), rv = .slice sp n8 cw ∧ iv = .int .i64 i ∧ i ≤ m ∧ Own8 wr w5.heap.size 5 (.slice sp n8 cw) (encD (E5.take i)) ∧ (encD (E5.take i)).length = n8 ∧ n8 ≤ i * 82 ∧ Below w5.heap.size w5 wr) (fun _ iv _ => m - (intOf iv).toNat)
        case atStart => exact ⟨0, none, 0, 0, rfl, rfl, by omega, own8_none _ _, rfl, by omega, Below.refl _ _⟩
        case round =>
          obtain ⟨i, sp, n8, cw, rfl, rfl, hi, ow, hln, hsz, b6⟩ := hrel
          by_cases him : i < m
          · obtain ⟨x, hgx⟩ : ∃ x, E5[i]? = some x := ⟨_, List.getElem?_eq_getElem (by omega)⟩
            obtain ⟨hnd, hns⟩ := hn5 x (List.mem_of_getElem? hgx)
            obtain ⟨B, hB⟩ : ∃ B, B = w5.heap.size := ⟨_, rfl⟩
            have hrx := ea5.rng i x hgx
            have hc : ∀ wy, Below B wr wy → wy.cell? ⟨g, i * 33, none⟩ = some (.string x.name) := fun wy h => range0 (rangeAt_below hrx (b6.trans (by rw [← hB]; exact h)) (Nat.le_refl _))
            have hsB : ∀ {wy : World}, Below B wr wy → B ≤ wy.heap.size := fun h => by have := h.size; have := b6.size; omega
            have htk : encD (E5.take (i + 1)) = encD (E5.take i) ++ [(x.name.size : Int)] ++ bNum x.name ++ List.replicate 32 0 := by
              rw [List.take_add_one, hgx]; simp [encD, encE, hnd, zer]
            rw [← hB] at ow
            have him' : (i : Int) < m := by omega
            have hc0 := hc wr (Below.refl _ _)
            clear hrx ea5 hok5 hnd5 hpd hde hdo hgx hn5 hnd
            go_upto_region 29 with fail
            generalize encD (E5.take i) = L0 at *
            generalize x.name = sx at *
            have hsx : 0 ≤ (sx.size : Int) ∧ (sx.size : Int) ≤ 49 := by omega
            have hX1 : (L0 ++ [(sx.size : Int)]).length = n8 + 1 := by simp [hln]
            have hX2 : (L0 ++ [(sx.size : Int)] ++ bNum sx).length = n8 + 1 + sx.size := by simp [hln, bNum_len]; omega
            have hX3 : (L0 ++ [(sx.size : Int)] ++ bNum sx ++ List.replicate 32 0).length = n8 + 1 + sx.size + 32 := by simp [hln, bNum_len]; omega
            refine region_invFA  (by kernel_rfl) (by kernel_rfl) (fun a0 listed a w => ∃ s12 s114 s115 s116 s117 s118 s119 s120 s121 s122 s123 s124 s125 s126 s127 s128 s129 s130, a = (Act.put (Act.put (Act.put (Act.put (Act.put (Act.put (Act.put (Act.put (Act.put (Act.put (Act.put (Act.put (Act.put (Act.put (Act.put (Act.put (Act.put (Act.put a0 (some 12) s12) (some 114) s114) (some 115) s115) (some 116) s116) (some 117) s117) (some 118) s118) (some 119) s119) (some 120) s120) (some 121) s121) (some 122) s122) (some 123) s123) (some 124) s124) (some 125) s125) (some 126) s126) (some 127) s127) (some 128) s128) (some 129) s129) (some 130) s130) ∧ Below B wr w ∧ (listed.getD 9 false = false → Own8 w B 5 (.slice sp n8 cw) L0) ∧ (listed.getD 17 false = false → s12 = .slice sp n8 cw) ∧ (listed.getD 0 false = true → listed.getD 9 false = false → OwnS w B s114 n8 L0) ∧ (listed.getD 1 false = true → s115 = .slice (some ⟨g, 0, none⟩) m cp) ∧ (listed.getD 2 false = true → s116 = .int .i64 i) ∧ (listed.getD 3 false = true → s117 = .pointer (some ⟨g, i * 33, none⟩)) ∧ (listed.getD 4 false = true → s118 = .pointer (some ⟨g, i * 33, none⟩)) ∧ (listed.getD 5 false = true → s119 = .string sx) ∧ (listed.getD 6 false = true → s120 = .int .i64 (sx.size : Int)) ∧ (listed.getD 7 false = true → s121 = .int .u8 (sx.size : Int)) ∧ (listed.getD 8 false = true → listed.getD 9 false = false → LitS w B s122 1 [(sx.size : Int)]) ∧ (listed.getD 9 false = true → listed.getD 15 false = false → OwnS w B s123 (n8 + 1) (L0 ++ [(sx.size : Int)])) ∧ (listed.getD 10 false = true → s124 = .slice (some ⟨g, 0, none⟩) m cp) ∧ (listed.getD 11 false = true → s125 = .int .i64 i) ∧ (listed.getD 12 false = true → s126 = .pointer (some ⟨g, i * 33, none⟩)) ∧ (listed.getD 13 false = true → s127 = .pointer (some ⟨g, i * 33, none⟩)) ∧ (listed.getD 14 false = true → s128 = .string sx) ∧ (listed.getD 15 false = true → listed.getD 16 false = false → OwnS w B s129 (n8 + 1 + sx.size) (L0 ++ [(sx.size : Int)] ++ bNum sx)) ∧ (listed.getD 16 false = true → listed.getD 17 false = false → OwnS w B s130 (n8 + 1 + sx.size + 32) (L0 ++ [(sx.size : Int)] ++ bNum sx ++ List.replicate 32 0)) ∧ (listed.getD 17 false = true → OwnS w B s12 (n8 + 1 + sx.size + 32) (L0 ++ [(sx.size : Int)] ++ bNum sx ++ List.replicate 32 0))) ?_ ?_ ?_
            all_goals simp only [Act.put, List.setIfInBounds_toArray, List.set_cons_succ, List.set_cons_zero]
            · exact ⟨_, _, _, _, _, _, _, _, _, _, _, _, _, _, _, _, _, _, rfl, (Below.refl B _).drew, (fun _ => ow.drew1), (fun _ => rfl), (fun h => absurd h (by rw [getD_replicate_false]; decide)), (fun h => absurd h (by rw [getD_replicate_false]; decide)), (fun h => absurd h (by rw [getD_replicate_false]; decide)), (fun h => absurd h (by rw [getD_replicate_false]; decide)), (fun h => absurd h (by rw [getD_replicate_false]; decide)), (fun h => absurd h (by rw [getD_replicate_false]; decide)), (fun h => absurd h (by rw [getD_replicate_false]; decide)), (fun h => absurd h (by rw [getD_replicate_false]; decide)), (fun h => absurd h (by rw [getD_replicate_false]; decide)), (fun h => absurd h (by rw [getD_replicate_false]; decide)), (fun h => absurd h (by rw [getD_replicate_false]; decide)), (fun h => absurd h (by rw [getD_replicate_false]; decide)), (fun h => absurd h (by rw [getD_replicate_false]; decide)), (fun h => absurd h (by rw [getD_replicate_false]; decide)), (fun h => absurd h (by rw [getD_replicate_false]; decide)), (fun h => absurd h (by rw [getD_replicate_false]; decide)), (fun h => absurd h (by rw [getD_replicate_false]; decide)), (fun h => absurd h (by rw [getD_replicate_false]; decide))⟩
            · intro listed a w i o hls hJ hin ho hi hall hcl
              obtain ⟨s12, s114, s115, s116, s117, s118, s119, s120, s121, s122, s123, s124, s125, s126, s127, s128, s129, s130, rfl, hbW, cx, cy, c0, c1, c2, c3, c4, c5, c6, c7, c8, c9, c10, c11, c12, c13, c14, c15, c16, c17⟩ := hJ
              replace hin : i < 18 := hin
              rcases (by omega : i = 0 ∨ i = 1 ∨ i = 2 ∨ i = 3 ∨ i = 4 ∨ i = 5 ∨ i = 6 ∨ i = 7 ∨ i = 8 ∨ i = 9 ∨ i = 10 ∨ i = 11 ∨ i = 12 ∨ i = 13 ∨ i = 14 ∨ i = 15 ∨ i = 16 ∨ i = 17) with rfl | rfl | rfl | rfl | rfl | rfl | rfl | rfl | rfl | rfl | rfl | rfl | rfl | rfl | rfl | rfl | rfl | rfl
              · obtain rfl := Option.some.inj ho
                have hsz : 0 < listed.size := by rw [hls]; decide
                have hbw := hbW
                have nU : listed.getD 17 false = false := by
                  cases hq : listed.getD 17 false with
                  | false => rfl
                  | true => exact absurd (hcl 9 _ rfl (hcl 15 _ rfl (hcl 16 _ rfl (hcl 17 _ rfl hq ⟨16, .data⟩ (by simp) rfl) ⟨15, .data⟩ (by simp) rfl) ⟨9, .data⟩ (by simp) rfl) ⟨0, .data⟩ (by simp) rfl) (by rw [hi]; decide)
                obtain rfl := cy nU
                refine inv_val (w' := w) (.slice sp n8 cw) rfl rfl rfl ?_
                exact ⟨(.slice sp n8 cw), (.slice sp n8 cw), s115, s116, s117, s118, s119, s120, s121, s122, s123, s124, s125, s126, s127, s128, s129, s130, rfl, hbw, (fun h2 => cx (bit_ne h2 (by decide))), (fun _ => rfl), (fun _ h2 => ⟨sp, cw, rfl, cx (by first | exact bit_ne h2 (by decide) | exact h2)⟩), (fun h => c1 (bit_ne h (by decide))), (fun h => c2 (bit_ne h (by decide))), (fun h => c3 (bit_ne h (by decide))), (fun h => c4 (bit_ne h (by decide))), (fun h => c5 (bit_ne h (by decide))), (fun h => c6 (bit_ne h (by decide))), (fun h => c7 (bit_ne h (by decide))), (fun h h2 => c8 (bit_ne h (by decide)) (bit_ne h2 (by decide))), (fun h h2 => c9 (bit_ne h (by decide)) (bit_ne h2 (by decide))), (fun h => c10 (bit_ne h (by decide))), (fun h => c11 (bit_ne h (by decide))), (fun h => c12 (bit_ne h (by decide))), (fun h => c13 (bit_ne h (by decide))), (fun h => c14 (bit_ne h (by decide))), (fun h h2 => c15 (bit_ne h (by decide)) (bit_ne h2 (by decide))), (fun h h2 => c16 (bit_ne h (by decide)) (bit_ne h2 (by decide))), (fun h => c17 (bit_ne h (by decide)))⟩
              · obtain rfl := Option.some.inj ho
                have hsz : 1 < listed.size := by rw [hls]; decide
                have hbw := hbW
                refine inv_val (w' := w) (.slice (some ⟨g, 0, none⟩) m cp) rfl rfl rfl ?_
                exact ⟨s12, s114, (.slice (some ⟨g, 0, none⟩) m cp), s116, s117, s118, s119, s120, s121, s122, s123, s124, s125, s126, s127, s128, s129, s130, rfl, hbw, (fun h2 => cx (bit_ne h2 (by decide))), (fun h2 => cy (bit_ne h2 (by decide))), (fun h h2 => c0 (bit_ne h (by decide)) (bit_ne h2 (by decide))), (fun _ => rfl), (fun h => c2 (bit_ne h (by decide))), (fun h => c3 (bit_ne h (by decide))), (fun h => c4 (bit_ne h (by decide))), (fun h => c5 (bit_ne h (by decide))), (fun h => c6 (bit_ne h (by decide))), (fun h => c7 (bit_ne h (by decide))), (fun h h2 => c8 (bit_ne h (by decide)) (bit_ne h2 (by decide))), (fun h h2 => c9 (bit_ne h (by decide)) (bit_ne h2 (by decide))), (fun h => c10 (bit_ne h (by decide))), (fun h => c11 (bit_ne h (by decide))), (fun h => c12 (bit_ne h (by decide))), (fun h => c13 (bit_ne h (by decide))), (fun h => c14 (bit_ne h (by decide))), (fun h h2 => c15 (bit_ne h (by decide)) (bit_ne h2 (by decide))), (fun h h2 => c16 (bit_ne h (by decide)) (bit_ne h2 (by decide))), (fun h => c17 (bit_ne h (by decide)))⟩
              · obtain rfl := Option.some.inj ho
                have hsz : 2 < listed.size := by rw [hls]; decide
                have hbw := hbW
                refine inv_val (w' := w) (.int .i64 i) rfl rfl rfl ?_
                exact ⟨s12, s114, s115, (.int .i64 i), s117, s118, s119, s120, s121, s122, s123, s124, s125, s126, s127, s128, s129, s130, rfl, hbw, (fun h2 => cx (bit_ne h2 (by decide))), (fun h2 => cy (bit_ne h2 (by decide))), (fun h h2 => c0 (bit_ne h (by decide)) (bit_ne h2 (by decide))), (fun h => c1 (bit_ne h (by decide))), (fun _ => rfl), (fun h => c3 (bit_ne h (by decide))), (fun h => c4 (bit_ne h (by decide))), (fun h => c5 (bit_ne h (by decide))), (fun h => c6 (bit_ne h (by decide))), (fun h => c7 (bit_ne h (by decide))), (fun h h2 => c8 (bit_ne h (by decide)) (bit_ne h2 (by decide))), (fun h h2 => c9 (bit_ne h (by decide)) (bit_ne h2 (by decide))), (fun h => c10 (bit_ne h (by decide))), (fun h => c11 (bit_ne h (by decide))), (fun h => c12 (bit_ne h (by decide))), (fun h => c13 (bit_ne h (by decide))), (fun h => c14 (bit_ne h (by decide))), (fun h h2 => c15 (bit_ne h (by decide)) (bit_ne h2 (by decide))), (fun h h2 => c16 (bit_ne h (by decide)) (bit_ne h2 (by decide))), (fun h => c17 (bit_ne h (by decide)))⟩
              · obtain rfl := Option.some.inj ho
                have hsz : 3 < listed.size := by rw [hls]; decide
                have hdep1 : listed.getD 1 false = true := hall ⟨1, .data⟩ (by simp) (by rfl)
                obtain rfl := c1 hdep1
                have hdep2 : listed.getD 2 false = true := hall ⟨2, .data⟩ (by simp) (by rfl)
                obtain rfl := c2 hdep2
                have hbw := hbW
                refine inv_val (w' := w) (.pointer (some ⟨g, i * 33, none⟩)) rfl rfl (by go_simp) ?_
                exact ⟨s12, s114, (.slice (some ⟨g, 0, none⟩) m cp), (.int .i64 i), (.pointer (some ⟨g, i * 33, none⟩)), s118, s119, s120, s121, s122, s123, s124, s125, s126, s127, s128, s129, s130, rfl, hbw, (fun h2 => cx (bit_ne h2 (by decide))), (fun h2 => cy (bit_ne h2 (by decide))), (fun h h2 => c0 (bit_ne h (by decide)) (bit_ne h2 (by decide))), (fun h => c1 (bit_ne h (by decide))), (fun h => c2 (bit_ne h (by decide))), (fun _ => rfl), (fun h => c4 (bit_ne h (by decide))), (fun h => c5 (bit_ne h (by decide))), (fun h => c6 (bit_ne h (by decide))), (fun h => c7 (bit_ne h (by decide))), (fun h h2 => c8 (bit_ne h (by decide)) (bit_ne h2 (by decide))), (fun h h2 => c9 (bit_ne h (by decide)) (bit_ne h2 (by decide))), (fun h => c10 (bit_ne h (by decide))), (fun h => c11 (bit_ne h (by decide))), (fun h => c12 (bit_ne h (by decide))), (fun h => c13 (bit_ne h (by decide))), (fun h => c14 (bit_ne h (by decide))), (fun h h2 => c15 (bit_ne h (by decide)) (bit_ne h2 (by decide))), (fun h h2 => c16 (bit_ne h (by decide)) (bit_ne h2 (by decide))), (fun h => c17 (bit_ne h (by decide)))⟩
              · obtain rfl := Option.some.inj ho
                have hsz : 4 < listed.size := by rw [hls]; decide
                have hdep3 : listed.getD 3 false = true := hall ⟨3, .data⟩ (by simp) (by rfl)
                obtain rfl := c3 hdep3
                have hbw := hbW
                refine inv_val (w' := w) (.pointer (some ⟨g, i * 33, none⟩)) rfl rfl (by go_simp) ?_
                exact ⟨s12, s114, s115, s116, (.pointer (some ⟨g, i * 33, none⟩)), (.pointer (some ⟨g, i * 33, none⟩)), s119, s120, s121, s122, s123, s124, s125, s126, s127, s128, s129, s130, rfl, hbw, (fun h2 => cx (bit_ne h2 (by decide))), (fun h2 => cy (bit_ne h2 (by decide))), (fun h h2 => c0 (bit_ne h (by decide)) (bit_ne h2 (by decide))), (fun h => c1 (bit_ne h (by decide))), (fun h => c2 (bit_ne h (by decide))), (fun h => c3 (bit_ne h (by decide))), (fun _ => rfl), (fun h => c5 (bit_ne h (by decide))), (fun h => c6 (bit_ne h (by decide))), (fun h => c7 (bit_ne h (by decide))), (fun h h2 => c8 (bit_ne h (by decide)) (bit_ne h2 (by decide))), (fun h h2 => c9 (bit_ne h (by decide)) (bit_ne h2 (by decide))), (fun h => c10 (bit_ne h (by decide))), (fun h => c11 (bit_ne h (by decide))), (fun h => c12 (bit_ne h (by decide))), (fun h => c13 (bit_ne h (by decide))), (fun h => c14 (bit_ne h (by decide))), (fun h h2 => c15 (bit_ne h (by decide)) (bit_ne h2 (by decide))), (fun h h2 => c16 (bit_ne h (by decide)) (bit_ne h2 (by decide))), (fun h => c17 (bit_ne h (by decide)))⟩
              · obtain rfl := Option.some.inj ho
                have hsz : 5 < listed.size := by rw [hls]; decide
                have hdep4 : listed.getD 4 false = true := hall ⟨4, .data⟩ (by simp) (by rfl)
                obtain rfl := c4 hdep4
                have hbw := hbW
                refine inv_val (w' := w) (.string sx) rfl rfl (by have hq := hc w hbW; go_simp) ?_
                exact ⟨s12, s114, s115, s116, s117, (.pointer (some ⟨g, i * 33, none⟩)), (.string sx), s120, s121, s122, s123, s124, s125, s126, s127, s128, s129, s130, rfl, hbw, (fun h2 => cx (bit_ne h2 (by decide))), (fun h2 => cy (bit_ne h2 (by decide))), (fun h h2 => c0 (bit_ne h (by decide)) (bit_ne h2 (by decide))), (fun h => c1 (bit_ne h (by decide))), (fun h => c2 (bit_ne h (by decide))), (fun h => c3 (bit_ne h (by decide))), (fun h => c4 (bit_ne h (by decide))), (fun _ => rfl), (fun h => c6 (bit_ne h (by decide))), (fun h => c7 (bit_ne h (by decide))), (fun h h2 => c8 (bit_ne h (by decide)) (bit_ne h2 (by decide))), (fun h h2 => c9 (bit_ne h (by decide)) (bit_ne h2 (by decide))), (fun h => c10 (bit_ne h (by decide))), (fun h => c11 (bit_ne h (by decide))), (fun h => c12 (bit_ne h (by decide))), (fun h => c13 (bit_ne h (by decide))), (fun h => c14 (bit_ne h (by decide))), (fun h h2 => c15 (bit_ne h (by decide)) (bit_ne h2 (by decide))), (fun h h2 => c16 (bit_ne h (by decide)) (bit_ne h2 (by decide))), (fun h => c17 (bit_ne h (by decide)))⟩
              · obtain rfl := Option.some.inj ho
                have hsz : 6 < listed.size := by rw [hls]; decide
                have hdep5 : listed.getD 5 false = true := hall ⟨5, .data⟩ (by simp) (by rfl)
                obtain rfl := c5 hdep5
                have hbw := hbW
                refine inv_val (w' := w) (.int .i64 (sx.size : Int)) rfl rfl (by go_simp) ?_
                exact ⟨s12, s114, s115, s116, s117, s118, (.string sx), (.int .i64 (sx.size : Int)), s121, s122, s123, s124, s125, s126, s127, s128, s129, s130, rfl, hbw, (fun h2 => cx (bit_ne h2 (by decide))), (fun h2 => cy (bit_ne h2 (by decide))), (fun h h2 => c0 (bit_ne h (by decide)) (bit_ne h2 (by decide))), (fun h => c1 (bit_ne h (by decide))), (fun h => c2 (bit_ne h (by decide))), (fun h => c3 (bit_ne h (by decide))), (fun h => c4 (bit_ne h (by decide))), (fun h => c5 (bit_ne h (by decide))), (fun _ => rfl), (fun h => c7 (bit_ne h (by decide))), (fun h h2 => c8 (bit_ne h (by decide)) (bit_ne h2 (by decide))), (fun h h2 => c9 (bit_ne h (by decide)) (bit_ne h2 (by decide))), (fun h => c10 (bit_ne h (by decide))), (fun h => c11 (bit_ne h (by decide))), (fun h => c12 (bit_ne h (by decide))), (fun h => c13 (bit_ne h (by decide))), (fun h => c14 (bit_ne h (by decide))), (fun h h2 => c15 (bit_ne h (by decide)) (bit_ne h2 (by decide))), (fun h h2 => c16 (bit_ne h (by decide)) (bit_ne h2 (by decide))), (fun h => c17 (bit_ne h (by decide)))⟩
              · obtain rfl := Option.some.inj ho
                have hsz : 7 < listed.size := by rw [hls]; decide
                have hdep6 : listed.getD 6 false = true := hall ⟨6, .data⟩ (by simp) (by rfl)
                obtain rfl := c6 hdep6
                have hbw := hbW
                refine inv_val (w' := w) (.int .u8 (sx.size : Int)) rfl rfl (by go_simp; exact wrap88 hsx) ?_
                exact ⟨s12, s114, s115, s116, s117, s118, s119, (.int .i64 (sx.size : Int)), (.int .u8 (sx.size : Int)), s122, s123, s124, s125, s126, s127, s128, s129, s130, rfl, hbw, (fun h2 => cx (bit_ne h2 (by decide))), (fun h2 => cy (bit_ne h2 (by decide))), (fun h h2 => c0 (bit_ne h (by decide)) (bit_ne h2 (by decide))), (fun h => c1 (bit_ne h (by decide))), (fun h => c2 (bit_ne h (by decide))), (fun h => c3 (bit_ne h (by decide))), (fun h => c4 (bit_ne h (by decide))), (fun h => c5 (bit_ne h (by decide))), (fun h => c6 (bit_ne h (by decide))), (fun _ => rfl), (fun h h2 => c8 (bit_ne h (by decide)) (bit_ne h2 (by decide))), (fun h h2 => c9 (bit_ne h (by decide)) (bit_ne h2 (by decide))), (fun h => c10 (bit_ne h (by decide))), (fun h => c11 (bit_ne h (by decide))), (fun h => c12 (bit_ne h (by decide))), (fun h => c13 (bit_ne h (by decide))), (fun h => c14 (bit_ne h (by decide))), (fun h h2 => c15 (bit_ne h (by decide)) (bit_ne h2 (by decide))), (fun h h2 => c16 (bit_ne h (by decide)) (bit_ne h2 (by decide))), (fun h => c17 (bit_ne h (by decide)))⟩
              · obtain rfl := Option.some.inj ho
                have hsz : 8 < listed.size := by rw [hls]; decide
                have hdep7 : listed.getD 7 false = true := hall ⟨7, .data⟩ (by simp) (by rfl)
                obtain rfl := c7 hdep7
                have hbw : Below B wr (w.alloc (.cells (v8 [(sx.size : Int)]) 5)) := hbW.alloc (hsB hbW) _
                refine inv_val (.slice (some ⟨w.heap.size, 0, none⟩) 1 1) (w' := w.alloc (.cells (v8 [(sx.size : Int)]) 5)) rfl rfl (by kernel_rfl) ?_
                exact ⟨s12, s114, s115, s116, s117, s118, s119, s120, (.int .u8 (sx.size : Int)), (.slice (some ⟨w.heap.size, 0, none⟩) 1 1), s123, s124, s125, s126, s127, s128, s129, s130, rfl, hbw, (fun h2 => (cx (bit_ne h2 (by decide))).alloc _), (fun h2 => cy (bit_ne h2 (by decide))), (fun h h2 => (c0 (bit_ne h (by decide)) (bit_ne h2 (by decide))).alloc _), (fun h => c1 (bit_ne h (by decide))), (fun h => c2 (bit_ne h (by decide))), (fun h => c3 (bit_ne h (by decide))), (fun h => c4 (bit_ne h (by decide))), (fun h => c5 (bit_ne h (by decide))), (fun h => c6 (bit_ne h (by decide))), (fun h => c7 (bit_ne h (by decide))), (fun _ _ => LitS.new w B (hsB hbW) 1 [(sx.size : Int)] (by rfl)), (fun h h2 => (c9 (bit_ne h (by decide)) (bit_ne h2 (by decide))).alloc _), (fun h => c10 (bit_ne h (by decide))), (fun h => c11 (bit_ne h (by decide))), (fun h => c12 (bit_ne h (by decide))), (fun h => c13 (bit_ne h (by decide))), (fun h => c14 (bit_ne h (by decide))), (fun h h2 => (c15 (bit_ne h (by decide)) (bit_ne h2 (by decide))).alloc _), (fun h h2 => (c16 (bit_ne h (by decide)) (bit_ne h2 (by decide))).alloc _), (fun h => (c17 (bit_ne h (by decide))).alloc _)⟩
              · obtain rfl := Option.some.inj ho
                have hsz : 9 < listed.size := by rw [hls]; decide
                have hdep0 : listed.getD 0 false = true := hall ⟨0, .data⟩ (by simp) (by rfl)
                obtain ⟨sp0, cap0, rfl, o0⟩ := c0 hdep0 hi
                have hdep8 : listed.getD 8 false = true := hall ⟨8, .data⟩ (by simp) (by rfl)
                obtain ⟨b8, rfl, r8, hb8⟩ := c8 hdep8 hi
                refine inv_op rfl rfl (wp8g (.tmp 114) (.tmp 122) 27 5 rfl B Try.underlying27 info5 _ L0 rfl o0 (some ⟨b8, 0, none⟩) 1 1 [(sx.size : Int)] rfl rfl (fun h => by cases h) r8.bytes (by first | omega | simp | (simp; omega)) (hsB hbW) ?_)
                intro sp cap w' ow hb' hgg
                have hg := Grew.of hgg
                have hbw : Below B wr w' := hbW.trans hb'
                have hown := o0
                rw [hX1] at ow ⊢
                exact ⟨s12, (.slice sp0 n8 cap0), s115, s116, s117, s118, s119, s120, s121, (.slice (some ⟨b8, 0, none⟩) 1 1), (.slice sp (n8 + 1) cap), s124, s125, s126, s127, s128, s129, s130, rfl, hbw, (fun h2 => absurd (bit_on hsz) (by rw [h2]; decide)), (fun h2 => cy (bit_ne h2 (by decide))), (fun _ h2 => absurd (bit_on hsz) (by rw [h2]; decide)), (fun h => c1 (bit_ne h (by decide))), (fun h => c2 (bit_ne h (by decide))), (fun h => c3 (bit_ne h (by decide))), (fun h => c4 (bit_ne h (by decide))), (fun h => c5 (bit_ne h (by decide))), (fun h => c6 (bit_ne h (by decide))), (fun h => c7 (bit_ne h (by decide))), (fun _ h2 => absurd (bit_on hsz) (by rw [h2]; decide)), (fun _ _ => ⟨sp, cap, rfl, ow⟩), (fun h => c10 (bit_ne h (by decide))), (fun h => c11 (bit_ne h (by decide))), (fun h => c12 (bit_ne h (by decide))), (fun h => c13 (bit_ne h (by decide))), (fun h => c14 (bit_ne h (by decide))), (fun h _ => absurd (hcl 15 _ rfl (bit_ne h (by decide)) ⟨9, .data⟩ (by simp) rfl) (by rw [hi]; decide)), (fun h _ => absurd (hcl 15 _ rfl (hcl 16 _ rfl (bit_ne h (by decide)) ⟨15, .data⟩ (by simp) rfl) ⟨9, .data⟩ (by simp) rfl) (by rw [hi]; decide)), (fun h => absurd (hcl 15 _ rfl (hcl 16 _ rfl (hcl 17 _ rfl (bit_ne h (by decide)) ⟨16, .data⟩ (by simp) rfl) ⟨15, .data⟩ (by simp) rfl) ⟨9, .data⟩ (by simp) rfl) (by rw [hi]; decide))⟩
              · obtain rfl := Option.some.inj ho
                have hsz : 10 < listed.size := by rw [hls]; decide
                have hbw := hbW
                refine inv_val (w' := w) (.slice (some ⟨g, 0, none⟩) m cp) rfl rfl rfl ?_
                exact ⟨s12, s114, s115, s116, s117, s118, s119, s120, s121, s122, s123, (.slice (some ⟨g, 0, none⟩) m cp), s125, s126, s127, s128, s129, s130, rfl, hbw, (fun h2 => cx (bit_ne h2 (by decide))), (fun h2 => cy (bit_ne h2 (by decide))), (fun h h2 => c0 (bit_ne h (by decide)) (bit_ne h2 (by decide))), (fun h => c1 (bit_ne h (by decide))), (fun h => c2 (bit_ne h (by decide))), (fun h => c3 (bit_ne h (by decide))), (fun h => c4 (bit_ne h (by decide))), (fun h => c5 (bit_ne h (by decide))), (fun h => c6 (bit_ne h (by decide))), (fun h => c7 (bit_ne h (by decide))), (fun h h2 => c8 (bit_ne h (by decide)) (bit_ne h2 (by decide))), (fun h h2 => c9 (bit_ne h (by decide)) (bit_ne h2 (by decide))), (fun _ => rfl), (fun h => c11 (bit_ne h (by decide))), (fun h => c12 (bit_ne h (by decide))), (fun h => c13 (bit_ne h (by decide))), (fun h => c14 (bit_ne h (by decide))), (fun h h2 => c15 (bit_ne h (by decide)) (bit_ne h2 (by decide))), (fun h h2 => c16 (bit_ne h (by decide)) (bit_ne h2 (by decide))), (fun h => c17 (bit_ne h (by decide)))⟩
              · obtain rfl := Option.some.inj ho
                have hsz : 11 < listed.size := by rw [hls]; decide
                have hbw := hbW
                refine inv_val (w' := w) (.int .i64 i) rfl rfl rfl ?_
                exact ⟨s12, s114, s115, s116, s117, s118, s119, s120, s121, s122, s123, s124, (.int .i64 i), s126, s127, s128, s129, s130, rfl, hbw, (fun h2 => cx (bit_ne h2 (by decide))), (fun h2 => cy (bit_ne h2 (by decide))), (fun h h2 => c0 (bit_ne h (by decide)) (bit_ne h2 (by decide))), (fun h => c1 (bit_ne h (by decide))), (fun h => c2 (bit_ne h (by decide))), (fun h => c3 (bit_ne h (by decide))), (fun h => c4 (bit_ne h (by decide))), (fun h => c5 (bit_ne h (by decide))), (fun h => c6 (bit_ne h (by decide))), (fun h => c7 (bit_ne h (by decide))), (fun h h2 => c8 (bit_ne h (by decide)) (bit_ne h2 (by decide))), (fun h h2 => c9 (bit_ne h (by decide)) (bit_ne h2 (by decide))), (fun h => c10 (bit_ne h (by decide))), (fun _ => rfl), (fun h => c12 (bit_ne h (by decide))), (fun h => c13 (bit_ne h (by decide))), (fun h => c14 (bit_ne h (by decide))), (fun h h2 => c15 (bit_ne h (by decide)) (bit_ne h2 (by decide))), (fun h h2 => c16 (bit_ne h (by decide)) (bit_ne h2 (by decide))), (fun h => c17 (bit_ne h (by decide)))⟩
              · obtain rfl := Option.some.inj ho
                have hsz : 12 < listed.size := by rw [hls]; decide
                have hdep10 : listed.getD 10 false = true := hall ⟨10, .data⟩ (by simp) (by rfl)
                obtain rfl := c10 hdep10
                have hdep11 : listed.getD 11 false = true := hall ⟨11, .data⟩ (by simp) (by rfl)
                obtain rfl := c11 hdep11
                have hbw := hbW
                refine inv_val (w' := w) (.pointer (some ⟨g, i * 33, none⟩)) rfl rfl (by go_simp) ?_
                exact ⟨s12, s114, s115, s116, s117, s118, s119, s120, s121, s122, s123, (.slice (some ⟨g, 0, none⟩) m cp), (.int .i64 i), (.pointer (some ⟨g, i * 33, none⟩)), s127, s128, s129, s130, rfl, hbw, (fun h2 => cx (bit_ne h2 (by decide))), (fun h2 => cy (bit_ne h2 (by decide))), (fun h h2 => c0 (bit_ne h (by decide)) (bit_ne h2 (by decide))), (fun h => c1 (bit_ne h (by decide))), (fun h => c2 (bit_ne h (by decide))), (fun h => c3 (bit_ne h (by decide))), (fun h => c4 (bit_ne h (by decide))), (fun h => c5 (bit_ne h (by decide))), (fun h => c6 (bit_ne h (by decide))), (fun h => c7 (bit_ne h (by decide))), (fun h h2 => c8 (bit_ne h (by decide)) (bit_ne h2 (by decide))), (fun h h2 => c9 (bit_ne h (by decide)) (bit_ne h2 (by decide))), (fun h => c10 (bit_ne h (by decide))), (fun h => c11 (bit_ne h (by decide))), (fun _ => rfl), (fun h => c13 (bit_ne h (by decide))), (fun h => c14 (bit_ne h (by decide))), (fun h h2 => c15 (bit_ne h (by decide)) (bit_ne h2 (by decide))), (fun h h2 => c16 (bit_ne h (by decide)) (bit_ne h2 (by decide))), (fun h => c17 (bit_ne h (by decide)))⟩
              · obtain rfl := Option.some.inj ho
                have hsz : 13 < listed.size := by rw [hls]; decide
                have hdep12 : listed.getD 12 false = true := hall ⟨12, .data⟩ (by simp) (by rfl)
                obtain rfl := c12 hdep12
                have hbw := hbW
                refine inv_val (w' := w) (.pointer (some ⟨g, i * 33, none⟩)) rfl rfl (by go_simp) ?_
                exact ⟨s12, s114, s115, s116, s117, s118, s119, s120, s121, s122, s123, s124, s125, (.pointer (some ⟨g, i * 33, none⟩)), (.pointer (some ⟨g, i * 33, none⟩)), s128, s129, s130, rfl, hbw, (fun h2 => cx (bit_ne h2 (by decide))), (fun h2 => cy (bit_ne h2 (by decide))), (fun h h2 => c0 (bit_ne h (by decide)) (bit_ne h2 (by decide))), (fun h => c1 (bit_ne h (by decide))), (fun h => c2 (bit_ne h (by decide))), (fun h => c3 (bit_ne h (by decide))), (fun h => c4 (bit_ne h (by decide))), (fun h => c5 (bit_ne h (by decide))), (fun h => c6 (bit_ne h (by decide))), (fun h => c7 (bit_ne h (by decide))), (fun h h2 => c8 (bit_ne h (by decide)) (bit_ne h2 (by decide))), (fun h h2 => c9 (bit_ne h (by decide)) (bit_ne h2 (by decide))), (fun h => c10 (bit_ne h (by decide))), (fun h => c11 (bit_ne h (by decide))), (fun h => c12 (bit_ne h (by decide))), (fun _ => rfl), (fun h => c14 (bit_ne h (by decide))), (fun h h2 => c15 (bit_ne h (by decide)) (bit_ne h2 (by decide))), (fun h h2 => c16 (bit_ne h (by decide)) (bit_ne h2 (by decide))), (fun h => c17 (bit_ne h (by decide)))⟩
              · obtain rfl := Option.some.inj ho
                have hsz : 14 < listed.size := by rw [hls]; decide
                have hdep13 : listed.getD 13 false = true := hall ⟨13, .data⟩ (by simp) (by rfl)
                obtain rfl := c13 hdep13
                have hbw := hbW
                refine inv_val (w' := w) (.string sx) rfl rfl (by have hq := hc w hbW; go_simp) ?_
                exact ⟨s12, s114, s115, s116, s117, s118, s119, s120, s121, s122, s123, s124, s125, s126, (.pointer (some ⟨g, i * 33, none⟩)), (.string sx), s129, s130, rfl, hbw, (fun h2 => cx (bit_ne h2 (by decide))), (fun h2 => cy (bit_ne h2 (by decide))), (fun h h2 => c0 (bit_ne h (by decide)) (bit_ne h2 (by decide))), (fun h => c1 (bit_ne h (by decide))), (fun h => c2 (bit_ne h (by decide))), (fun h => c3 (bit_ne h (by decide))), (fun h => c4 (bit_ne h (by decide))), (fun h => c5 (bit_ne h (by decide))), (fun h => c6 (bit_ne h (by decide))), (fun h => c7 (bit_ne h (by decide))), (fun h h2 => c8 (bit_ne h (by decide)) (bit_ne h2 (by decide))), (fun h h2 => c9 (bit_ne h (by decide)) (bit_ne h2 (by decide))), (fun h => c10 (bit_ne h (by decide))), (fun h => c11 (bit_ne h (by decide))), (fun h => c12 (bit_ne h (by decide))), (fun h => c13 (bit_ne h (by decide))), (fun _ => rfl), (fun h h2 => c15 (bit_ne h (by decide)) (bit_ne h2 (by decide))), (fun h h2 => c16 (bit_ne h (by decide)) (bit_ne h2 (by decide))), (fun h => c17 (bit_ne h (by decide)))⟩
              · obtain rfl := Option.some.inj ho
                have hsz : 15 < listed.size := by rw [hls]; decide
                have hdep9 : listed.getD 9 false = true := hall ⟨9, .data⟩ (by simp) (by rfl)
                obtain ⟨sp9, cap9, rfl, o9⟩ := c9 hdep9 hi
                have hdep14 : listed.getD 14 false = true := hall ⟨14, .data⟩ (by simp) (by rfl)
                obtain rfl := c14 hdep14
                refine inv_op rfl rfl (wp8s (.tmp 123) (.tmp 128) 27 9 5 rfl B Try.underlying27 Try.underlying9 info5 _ (L0 ++ [(sx.size : Int)]) rfl o9 sx rfl (by rw [hX1]; omega) (hsB hbW) ?_)
                intro sp cap w' ow hb' hgg
                have hg := Grew.of hgg
                have hbw : Below B wr w' := hbW.trans hb'
                have hown := o9
                rw [hX2] at ow ⊢
                exact ⟨s12, s114, s115, s116, s117, s118, s119, s120, s121, s122, (.slice sp9 (n8 + 1) cap9), s124, s125, s126, s127, (.string sx), (.slice sp (n8 + 1 + sx.size) cap), s130, rfl, hbw, (fun h2 => absurd hdep9 (by rw [bit_ne h2 (by decide)]; decide)), (fun h2 => cy (bit_ne h2 (by decide))), (fun _ h2 => absurd hdep9 (by rw [bit_ne h2 (by decide)]; decide)), (fun h => c1 (bit_ne h (by decide))), (fun h => c2 (bit_ne h (by decide))), (fun h => c3 (bit_ne h (by decide))), (fun h => c4 (bit_ne h (by decide))), (fun h => c5 (bit_ne h (by decide))), (fun h => c6 (bit_ne h (by decide))), (fun h => c7 (bit_ne h (by decide))), (fun _ h2 => absurd hdep9 (by rw [bit_ne h2 (by decide)]; decide)), (fun _ h2 => absurd (bit_on hsz) (by rw [h2]; decide)), (fun h => c10 (bit_ne h (by decide))), (fun h => c11 (bit_ne h (by decide))), (fun h => c12 (bit_ne h (by decide))), (fun h => c13 (bit_ne h (by decide))), (fun h => c14 (bit_ne h (by decide))), (fun _ _ => ⟨sp, cap, rfl, ow⟩), (fun h _ => absurd (hcl 16 _ rfl (bit_ne h (by decide)) ⟨15, .data⟩ (by simp) rfl) (by rw [hi]; decide)), (fun h => absurd (hcl 16 _ rfl (hcl 17 _ rfl (bit_ne h (by decide)) ⟨16, .data⟩ (by simp) rfl) ⟨15, .data⟩ (by simp) rfl) (by rw [hi]; decide))⟩
              · obtain rfl := Option.some.inj ho
                have hsz : 16 < listed.size := by rw [hls]; decide
                have hdep15 : listed.getD 15 false = true := hall ⟨15, .data⟩ (by simp) (by rfl)
                obtain ⟨sp15, cap15, rfl, o15⟩ := c15 hdep15 hi
                refine inv_op rfl rfl (wp8z (.tmp 129) (.const (.int .i64 32)) 27 3 5 rfl B Try.underlying27 Try.underlying3 info5 (L0 ++ [(sx.size : Int)] ++ bNum sx) sp15 _ cap15 rfl o15 (by rw [hX2]; omega) 32 rfl (by decide) (by rw [hX2]; omega) (hsB hbW) ?_)
                intro sp cap w' ow hb' hgg
                have hg := Grew.of hgg
                have hbw : Below B wr w' := hbW.trans hb'
                have hown := o15
                rw [hX3] at ow ⊢
                exact ⟨s12, s114, s115, s116, s117, s118, s119, s120, s121, s122, s123, s124, s125, s126, s127, s128, (.slice sp15 (n8 + 1 + sx.size) cap15), (.slice sp (n8 + 1 + sx.size + 32) cap), rfl, hbw, (fun h2 => absurd (hcl 15 _ rfl hdep15 ⟨9, .data⟩ (by simp) rfl) (by rw [bit_ne h2 (by decide)]; decide)), (fun h2 => cy (bit_ne h2 (by decide))), (fun _ h2 => absurd (hcl 15 _ rfl hdep15 ⟨9, .data⟩ (by simp) rfl) (by rw [bit_ne h2 (by decide)]; decide)), (fun h => c1 (bit_ne h (by decide))), (fun h => c2 (bit_ne h (by decide))), (fun h => c3 (bit_ne h (by decide))), (fun h => c4 (bit_ne h (by decide))), (fun h => c5 (bit_ne h (by decide))), (fun h => c6 (bit_ne h (by decide))), (fun h => c7 (bit_ne h (by decide))), (fun _ h2 => absurd (hcl 15 _ rfl hdep15 ⟨9, .data⟩ (by simp) rfl) (by rw [bit_ne h2 (by decide)]; decide)), (fun _ h2 => absurd hdep15 (by rw [bit_ne h2 (by decide)]; decide)), (fun h => c10 (bit_ne h (by decide))), (fun h => c11 (bit_ne h (by decide))), (fun h => c12 (bit_ne h (by decide))), (fun h => c13 (bit_ne h (by decide))), (fun h => c14 (bit_ne h (by decide))), (fun _ h2 => absurd (bit_on hsz) (by rw [h2]; decide)), (fun _ _ => ⟨sp, cap, rfl, ow⟩), (fun h => absurd (hcl 17 _ rfl (bit_ne h (by decide)) ⟨16, .data⟩ (by simp) rfl) (by rw [hi]; decide))⟩
              · obtain rfl := Option.some.inj ho
                have hsz : 17 < listed.size := by rw [hls]; decide
                have hdep16 : listed.getD 16 false = true := hall ⟨16, .data⟩ (by simp) (by rfl)
                obtain ⟨sp16, cap16, rfl, o16⟩ := c16 hdep16 hi
                have hbw := hbW
                refine inv_val (w' := w) (.slice sp16 (n8 + 1 + sx.size + 32) cap16) rfl rfl rfl ?_
                exact ⟨(.slice sp16 (n8 + 1 + sx.size + 32) cap16), s114, s115, s116, s117, s118, s119, s120, s121, s122, s123, s124, s125, s126, s127, s128, s129, (.slice sp16 (n8 + 1 + sx.size + 32) cap16), rfl, hbw, (fun h2 => absurd (hcl 15 _ rfl (hcl 16 _ rfl hdep16 ⟨15, .data⟩ (by simp) rfl) ⟨9, .data⟩ (by simp) rfl) (by rw [bit_ne h2 (by decide)]; decide)), (fun h2 => absurd (bit_on hsz) (by rw [h2]; decide)), (fun h h2 => c0 (bit_ne h (by decide)) (bit_ne h2 (by decide))), (fun h => c1 (bit_ne h (by decide))), (fun h => c2 (bit_ne h (by decide))), (fun h => c3 (bit_ne h (by decide))), (fun h => c4 (bit_ne h (by decide))), (fun h => c5 (bit_ne h (by decide))), (fun h => c6 (bit_ne h (by decide))), (fun h => c7 (bit_ne h (by decide))), (fun h h2 => c8 (bit_ne h (by decide)) (bit_ne h2 (by decide))), (fun h h2 => c9 (bit_ne h (by decide)) (bit_ne h2 (by decide))), (fun h => c10 (bit_ne h (by decide))), (fun h => c11 (bit_ne h (by decide))), (fun h => c12 (bit_ne h (by decide))), (fun h => c13 (bit_ne h (by decide))), (fun h => c14 (bit_ne h (by decide))), (fun h h2 => c15 (bit_ne h (by decide)) (bit_ne h2 (by decide))), (fun _ h2 => absurd (bit_on hsz) (by rw [h2]; decide)), (fun _ => ⟨sp16, cap16, rfl, o16⟩)⟩
            · intro listed a w hall hJ
              obtain ⟨s12, s114, s115, s116, s117, s118, s119, s120, s121, s122, s123, s124, s125, s126, s127, s128, s129, s130, rfl, hbW, cx, cy, c0, c1, c2, c3, c4, c5, c6, c7, c8, c9, c10, c11, c12, c13, c14, c15, c16, c17⟩ := hJ
              obtain rfl := c1 (hall 1 (by decide))
              obtain rfl := c2 (hall 2 (by decide))
              obtain rfl := c3 (hall 3 (by decide))
              obtain rfl := c4 (hall 4 (by decide))
              obtain rfl := c5 (hall 5 (by decide))
              obtain rfl := c6 (hall 6 (by decide))
              obtain rfl := c7 (hall 7 (by decide))
              obtain rfl := c10 (hall 10 (by decide))
              obtain rfl := c11 (hall 11 (by decide))
              obtain rfl := c12 (hall 12 (by decide))
              obtain rfl := c13 (hall 13 (by decide))
              obtain rfl := c14 (hall 14 (by decide))
              obtain ⟨sp17, cap17, rfl, o17⟩ := c17 (hall 17 (by decide))
              have bb := b6.trans (by rw [← hB]; exact hbW)
              clear hbW hc hc0 hsB hall
              generalize w = w7 at *
              go_wp2
              go_roundw
              case rel => exact ⟨i + 1, sp17, _, cap17, rfl, by go_num, by omega, by rw [htk, ← hB]; exact o17, by rw [htk]; exact hX3, by omega, bb⟩
              case measure => simp [intOf]; omega
          · obtain rfl : i = m := by omega
            have htk : E5.take i = E5 := by rw [← hl5]; exact List.take_length
            rw [htk] at ow hln
            have hEn := ea5.ents.below b6 (Nat.le_refl _)
            have b7 := b5.trans (b6.mono b5.size)
            have hdb := fun wy h => dir_bad E5 i (some ⟨g, 0, none⟩) cp wy hl5 h hok5 (by omega) (by rw [hch5]; decide)
            rw [hch5] at hdb
            clear ea5 hnd5 hpd b6 b5
            go_upto_region 31 with (go_at_call 22; (with_reducible refine Calls.mono (hdb _ hEn) ?_); rintro e7 w8 ⟨rfl, hb8⟩)
            have ow8 := ow.below hb8 (Nat.le_refl _)
            have hbt := ow8.bytes
            have hcc := ow8.cap
            have hpa := pdir_any (encD E5) sp n8 cw w8 hln (by omega) hcc hbt (encD_by hok5 (fun x hx => by have := (hn5 x hx).2; omega))
            rw [hde, hdo] at hpa
            have b8 := b7.trans (hb8.mono b7.size)
            clear hn5 hdb hEn ow ow8 hbt hcc hok5 hch5
            go_wp2_with (go_at_call 24; (with_reducible refine Calls.mono hpa ?_); rintro e9 w9 ⟨sp9, cap9, rfl, _, _, hb9⟩)
            go_ret
            exact ⟨rfl, b8.trans (hb9.mono b8.size)⟩
end Go.Proofs.Ytgcffdnbihfghaa
