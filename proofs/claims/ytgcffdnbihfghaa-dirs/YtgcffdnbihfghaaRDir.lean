/- Dir, of the reference: the bytes of entries that may be a directory's, else why not. No old memory turns. -/
import Derived.Test.YtgcffdnbihfghaaDirG
import Derived.Test.YtgcffdnbihfghaaWrongD
namespace Go.Proofs.Ytgcffdnbihfghaa
open Go Go.RowKit
theorem Own8.drew1 {w : World} {B : Nat} {e : TypeId} {v : Value} {l : List Int} (h : Own8 w B e v l) : Own8 (w.drewN 1) B e v l := h
theorem wrap100 {x : Int} (h : 0 ≤ x ∧ x ≤ 100) : IntKind.u8.wrap x = x := by
  obtain ⟨h1, h2⟩ := h
  have := IntKind.wrap_u8 x
  rw [this]; omega
theorem range_node {w : World} {b o : Nat} {e : Ent} (h : w.rangeAt b o (ec e)) : Bytes w (some ⟨b, o + 1, none⟩) e.node := fun _ => ⟨b, o + 1, rfl, fun j hj => by
  have := h (j + 1) (.int .u8 (gi e.node j)) (by simp [ec, gi, hj])
  rw [show o + 1 + j = o + (j + 1) by omega]; exact this⟩
def outD (E : List Ent) : List Int := if chkE E = 0 then encD E else []
theorem dir_any (E : List Ent) (n : Nat) (p : Option Addr) (cap : Nat) (w : World) (hl : E.length = n) (hE : Ents w p E) (hok : EntsOk E) (hn : n ≤ 1000) (hs : ∀ e ∈ E, e.name.size ≤ 100) :
    Calls Try.prog 22 #[.slice p n cap] w (Gives w (outD E) (chkE E)) := by
  by_cases hz : chkE E = 0
  · refine (dir_good E n p cap w hl hE hok hn hz hs).mono fun e w' h => ?_
    unfold Gives outD
    rw [if_pos hz, hz]; exact h
  · refine (dir_bad E n p cap w hl hE hok (by omega) hz).mono fun e w' h => ?_
    unfold Gives outD
    rw [if_neg hz]
    exact ⟨none, 0, h.1, own8_none _ _, h.2⟩
set_option maxRecDepth 20000 in
set_option maxHeartbeats 4000000 in
theorem rdir_any (E : List Ent) (n : Nat) (p : Option Addr) (cap : Nat) (w0 : World) (hl : E.length = n) (hE : Ents w0 p E) (hok : EntsOk E) (hn : n ≤ 1000) (hs : ∀ e ∈ E, e.name.size ≤ 100) :
    Calls Try.prog 23 #[.slice p n cap] w0 (Gives w0 (outD E) (chkE E)) := by
  have hck := fun wx h => wrongD_any E n p cap wx hl h hok (by omega)
  obtain ⟨z, hz⟩ : ∃ z, chkE E = z := ⟨_, rfl⟩
  obtain ⟨O, hO⟩ : ∃ O, outD E = O := ⟨_, rfl⟩
  rw [hz] at hck ⊢
  rw [hO]
  by_cases hz0 : z = 0
  · have hOE : O = encD E := by rw [← hO, outD, if_pos (by rw [hz, hz0])]
    subst hz0
    clear hO hz
    unfold Gives
    go_enter Try.func23, Try.ntmps23
    go_upto_region 4 with (go_at_call 43; (with_reducible refine Calls.mono (hck _ hE) ?_); rintro e1 w1 ⟨rfl, hb1⟩)
    clear hck
    go_wp2
    go_loopw [4, 5] (fun rv iv wr => ∃ (i : Nat) (sp : Option Addr) (n8 cw : Nat), rv = .slice sp n8 cw ∧ iv = .int .i64 i ∧ i ≤ n ∧ Own8 wr w0.heap.size 5 (.slice sp n8 cw) (encD (E.take i)) ∧ (encD (E.take i)).length = n8 ∧ n8 ≤ i * 133 ∧ Below w0.heap.size w0 wr) (fun _ iv _ => n - (intOf iv).toNat)
    case atStart => exact ⟨0, none, 0, 0, rfl, rfl, by omega, own8_none _ _, rfl, by omega, hb1⟩
    case round =>
      obtain ⟨i, sp, n8, cw, rfl, rfl, hi, ow, hln, hsz, b1⟩ := hrel
      by_cases hin : i < n
      · obtain ⟨x, hgx⟩ : ∃ x, E[i]? = some x := ⟨_, List.getElem?_eq_getElem (by omega)⟩
        have hns := hs x (List.mem_of_getElem? hgx)
        have hnd := (hok x (List.mem_of_getElem? hgx)).1
        obtain ⟨B, hB⟩ : ∃ B, B = w0.heap.size := ⟨_, rfl⟩
        obtain ⟨b, o, rfl, hcx⟩ := hE (by omega)
        have hrx := hcx i x hgx
        have hall' : ∀ wy, Below B wr wy → wy.rangeAt b (o + i * 33) (ec x) := fun wy h => rangeAt_below hrx (b1.trans (by rw [← hB]; exact h)) (Nat.le_refl _)
        have hc : ∀ wy, Below B wr wy → wy.cell? ⟨b, o + i * 33, none⟩ = some (.string x.name) := fun wy h => range0 (hall' wy h)
        have hnb : ∀ wy, Below B wr wy → Bytes wy (some ⟨b, o + i * 33 + 1, none⟩) x.node := fun wy h => range_node (hall' wy h)
        have hsB : ∀ {wy : World}, Below B wr wy → B ≤ wy.heap.size := fun h => by have := h.size; have := b1.size; omega
        have htk : encD (E.take (i + 1)) = encD (E.take i) ++ [(x.name.size : Int)] ++ bNum x.name ++ x.node := by
          rw [encD_next hgx]; simp [encE]
        rw [← hB] at ow
        have hin' : (i : Int) < n := by omega
        have hc0 := hc wr (Below.refl _ _)
        clear hrx hok hgx hs hall' hcx hE
        go_upto_region 7 with fail
        generalize encD (E.take i) = L0 at *
        generalize x.name = sx at *
        generalize x.node = nd at *
        have hsx : 0 ≤ (sx.size : Int) ∧ (sx.size : Int) ≤ 100 := by omega
        have hX1 : (L0 ++ [(sx.size : Int)]).length = n8 + 1 := by simp [hln]
        have hX2 : (L0 ++ [(sx.size : Int)] ++ bNum sx).length = n8 + 1 + sx.size := by simp [hln, bNum_len]; omega
        have hX3 : (L0 ++ [(sx.size : Int)] ++ bNum sx ++ nd).length = n8 + 1 + sx.size + 32 := by simp [hln, bNum_len, hnd]; omega
        refine region_invFA  (by kernel_rfl) (by kernel_rfl) (fun a0 listed a w => ∃ s4 s17 s18 s19 s20 s21 s22 s23 s24 s25 s26 s27 s28 s29 s30 s31 s32 s33 s34 s35 s36 s37 s38, a = (Act.put (Act.put (Act.put (Act.put (Act.put (Act.put (Act.put (Act.put (Act.put (Act.put (Act.put (Act.put (Act.put (Act.put (Act.put (Act.put (Act.put (Act.put (Act.put (Act.put (Act.put (Act.put (Act.put a0 (some 4) s4) (some 17) s17) (some 18) s18) (some 19) s19) (some 20) s20) (some 21) s21) (some 22) s22) (some 23) s23) (some 24) s24) (some 25) s25) (some 26) s26) (some 27) s27) (some 28) s28) (some 29) s29) (some 30) s30) (some 31) s31) (some 32) s32) (some 33) s33) (some 34) s34) (some 35) s35) (some 36) s36) (some 37) s37) (some 38) s38) ∧ Below B wr w ∧ (listed.getD 9 false = false → Own8 w B 5 (.slice sp n8 cw) L0) ∧ (listed.getD 22 false = false → s4 = .slice sp n8 cw) ∧ (listed.getD 0 false = true → listed.getD 9 false = false → OwnS w B s17 n8 L0) ∧ (listed.getD 1 false = true → s18 = .slice (some ⟨b, o, none⟩) n cap) ∧ (listed.getD 2 false = true → s19 = .int .i64 i) ∧ (listed.getD 3 false = true → s20 = .pointer (some ⟨b, o + i * 33, none⟩)) ∧ (listed.getD 4 false = true → s21 = .pointer (some ⟨b, o + i * 33, none⟩)) ∧ (listed.getD 5 false = true → s22 = .string sx) ∧ (listed.getD 6 false = true → s23 = .int .i64 (sx.size : Int)) ∧ (listed.getD 7 false = true → s24 = .int .u8 (sx.size : Int)) ∧ (listed.getD 8 false = true → listed.getD 9 false = false → LitS w B s25 1 [(sx.size : Int)]) ∧ (listed.getD 9 false = true → listed.getD 15 false = false → OwnS w B s26 (n8 + 1) (L0 ++ [(sx.size : Int)])) ∧ (listed.getD 10 false = true → s27 = .slice (some ⟨b, o, none⟩) n cap) ∧ (listed.getD 11 false = true → s28 = .int .i64 i) ∧ (listed.getD 12 false = true → s29 = .pointer (some ⟨b, o + i * 33, none⟩)) ∧ (listed.getD 13 false = true → s30 = .pointer (some ⟨b, o + i * 33, none⟩)) ∧ (listed.getD 14 false = true → s31 = .string sx) ∧ (listed.getD 15 false = true → listed.getD 21 false = false → OwnS w B s32 (n8 + 1 + sx.size) (L0 ++ [(sx.size : Int)] ++ bNum sx)) ∧ (listed.getD 16 false = true → s33 = .slice (some ⟨b, o, none⟩) n cap) ∧ (listed.getD 17 false = true → s34 = .int .i64 i) ∧ (listed.getD 18 false = true → s35 = .pointer (some ⟨b, o + i * 33, none⟩)) ∧ (listed.getD 19 false = true → s36 = .pointer (some ⟨b, o + i * 33 + 1, none⟩)) ∧ (listed.getD 20 false = true → s37 = .slice (some ⟨b, o + i * 33 + 1, none⟩) 32 32) ∧ (listed.getD 21 false = true → listed.getD 22 false = false → OwnS w B s38 (n8 + 1 + sx.size + 32) (L0 ++ [(sx.size : Int)] ++ bNum sx ++ nd)) ∧ (listed.getD 22 false = true → OwnS w B s4 (n8 + 1 + sx.size + 32) (L0 ++ [(sx.size : Int)] ++ bNum sx ++ nd))) ?_ ?_ ?_
        all_goals simp only [Act.put, List.setIfInBounds_toArray, List.set_cons_succ, List.set_cons_zero]
        · exact ⟨_, _, _, _, _, _, _, _, _, _, _, _, _, _, _, _, _, _, _, _, _, _, _, rfl, (Below.refl B _).drew, (fun _ => ow.drew1), (fun _ => rfl), (fun h => absurd h (by rw [getD_replicate_false]; decide)), (fun h => absurd h (by rw [getD_replicate_false]; decide)), (fun h => absurd h (by rw [getD_replicate_false]; decide)), (fun h => absurd h (by rw [getD_replicate_false]; decide)), (fun h => absurd h (by rw [getD_replicate_false]; decide)), (fun h => absurd h (by rw [getD_replicate_false]; decide)), (fun h => absurd h (by rw [getD_replicate_false]; decide)), (fun h => absurd h (by rw [getD_replicate_false]; decide)), (fun h => absurd h (by rw [getD_replicate_false]; decide)), (fun h => absurd h (by rw [getD_replicate_false]; decide)), (fun h => absurd h (by rw [getD_replicate_false]; decide)), (fun h => absurd h (by rw [getD_replicate_false]; decide)), (fun h => absurd h (by rw [getD_replicate_false]; decide)), (fun h => absurd h (by rw [getD_replicate_false]; decide)), (fun h => absurd h (by rw [getD_replicate_false]; decide)), (fun h => absurd h (by rw [getD_replicate_false]; decide)), (fun h => absurd h (by rw [getD_replicate_false]; decide)), (fun h => absurd h (by rw [getD_replicate_false]; decide)), (fun h => absurd h (by rw [getD_replicate_false]; decide)), (fun h => absurd h (by rw [getD_replicate_false]; decide)), (fun h => absurd h (by rw [getD_replicate_false]; decide)), (fun h => absurd h (by rw [getD_replicate_false]; decide)), (fun h => absurd h (by rw [getD_replicate_false]; decide))⟩
        · intro listed a w i o hls hJ hin ho hi hall hcl
          obtain ⟨s4, s17, s18, s19, s20, s21, s22, s23, s24, s25, s26, s27, s28, s29, s30, s31, s32, s33, s34, s35, s36, s37, s38, rfl, hbW, cx, cy, c0, c1, c2, c3, c4, c5, c6, c7, c8, c9, c10, c11, c12, c13, c14, c15, c16, c17, c18, c19, c20, c21, c22⟩ := hJ
          replace hin : i < 23 := hin
          rcases (by omega : i = 0 ∨ i = 1 ∨ i = 2 ∨ i = 3 ∨ i = 4 ∨ i = 5 ∨ i = 6 ∨ i = 7 ∨ i = 8 ∨ i = 9 ∨ i = 10 ∨ i = 11 ∨ i = 12 ∨ i = 13 ∨ i = 14 ∨ i = 15 ∨ i = 16 ∨ i = 17 ∨ i = 18 ∨ i = 19 ∨ i = 20 ∨ i = 21 ∨ i = 22) with rfl | rfl | rfl | rfl | rfl | rfl | rfl | rfl | rfl | rfl | rfl | rfl | rfl | rfl | rfl | rfl | rfl | rfl | rfl | rfl | rfl | rfl | rfl
          · obtain rfl := Option.some.inj ho
            have hsz : 0 < listed.size := by rw [hls]; decide
            have hbw := hbW
            have nU : listed.getD 22 false = false := by
              cases hq : listed.getD 22 false with
              | false => rfl
              | true => exact absurd (hcl 9 _ rfl (hcl 15 _ rfl (hcl 21 _ rfl (hcl 22 _ rfl hq ⟨21, .data⟩ (by simp) rfl) ⟨15, .data⟩ (by simp) rfl) ⟨9, .data⟩ (by simp) rfl) ⟨0, .data⟩ (by simp) rfl) (by rw [hi]; decide)
            obtain rfl := cy nU
            refine inv_val (w' := w) (.slice sp n8 cw) rfl rfl rfl ?_
            exact ⟨(.slice sp n8 cw), (.slice sp n8 cw), s18, s19, s20, s21, s22, s23, s24, s25, s26, s27, s28, s29, s30, s31, s32, s33, s34, s35, s36, s37, s38, rfl, hbw, (fun h2 => cx (bit_ne h2 (by decide))), (fun _ => rfl), (fun _ h2 => ⟨sp, cw, rfl, cx (by first | exact bit_ne h2 (by decide) | exact h2)⟩), (fun h => c1 (bit_ne h (by decide))), (fun h => c2 (bit_ne h (by decide))), (fun h => c3 (bit_ne h (by decide))), (fun h => c4 (bit_ne h (by decide))), (fun h => c5 (bit_ne h (by decide))), (fun h => c6 (bit_ne h (by decide))), (fun h => c7 (bit_ne h (by decide))), (fun h h2 => c8 (bit_ne h (by decide)) (bit_ne h2 (by decide))), (fun h h2 => c9 (bit_ne h (by decide)) (bit_ne h2 (by decide))), (fun h => c10 (bit_ne h (by decide))), (fun h => c11 (bit_ne h (by decide))), (fun h => c12 (bit_ne h (by decide))), (fun h => c13 (bit_ne h (by decide))), (fun h => c14 (bit_ne h (by decide))), (fun h h2 => c15 (bit_ne h (by decide)) (bit_ne h2 (by decide))), (fun h => c16 (bit_ne h (by decide))), (fun h => c17 (bit_ne h (by decide))), (fun h => c18 (bit_ne h (by decide))), (fun h => c19 (bit_ne h (by decide))), (fun h => c20 (bit_ne h (by decide))), (fun h h2 => c21 (bit_ne h (by decide)) (bit_ne h2 (by decide))), (fun h => c22 (bit_ne h (by decide)))⟩
          · obtain rfl := Option.some.inj ho
            have hsz : 1 < listed.size := by rw [hls]; decide
            have hbw := hbW
            refine inv_val (w' := w) (.slice (some ⟨b, o, none⟩) n cap) rfl rfl rfl ?_
            exact ⟨s4, s17, (.slice (some ⟨b, o, none⟩) n cap), s19, s20, s21, s22, s23, s24, s25, s26, s27, s28, s29, s30, s31, s32, s33, s34, s35, s36, s37, s38, rfl, hbw, (fun h2 => cx (bit_ne h2 (by decide))), (fun h2 => cy (bit_ne h2 (by decide))), (fun h h2 => c0 (bit_ne h (by decide)) (bit_ne h2 (by decide))), (fun _ => rfl), (fun h => c2 (bit_ne h (by decide))), (fun h => c3 (bit_ne h (by decide))), (fun h => c4 (bit_ne h (by decide))), (fun h => c5 (bit_ne h (by decide))), (fun h => c6 (bit_ne h (by decide))), (fun h => c7 (bit_ne h (by decide))), (fun h h2 => c8 (bit_ne h (by decide)) (bit_ne h2 (by decide))), (fun h h2 => c9 (bit_ne h (by decide)) (bit_ne h2 (by decide))), (fun h => c10 (bit_ne h (by decide))), (fun h => c11 (bit_ne h (by decide))), (fun h => c12 (bit_ne h (by decide))), (fun h => c13 (bit_ne h (by decide))), (fun h => c14 (bit_ne h (by decide))), (fun h h2 => c15 (bit_ne h (by decide)) (bit_ne h2 (by decide))), (fun h => c16 (bit_ne h (by decide))), (fun h => c17 (bit_ne h (by decide))), (fun h => c18 (bit_ne h (by decide))), (fun h => c19 (bit_ne h (by decide))), (fun h => c20 (bit_ne h (by decide))), (fun h h2 => c21 (bit_ne h (by decide)) (bit_ne h2 (by decide))), (fun h => c22 (bit_ne h (by decide)))⟩
          · obtain rfl := Option.some.inj ho
            have hsz : 2 < listed.size := by rw [hls]; decide
            have hbw := hbW
            refine inv_val (w' := w) (.int .i64 i) rfl rfl rfl ?_
            exact ⟨s4, s17, s18, (.int .i64 i), s20, s21, s22, s23, s24, s25, s26, s27, s28, s29, s30, s31, s32, s33, s34, s35, s36, s37, s38, rfl, hbw, (fun h2 => cx (bit_ne h2 (by decide))), (fun h2 => cy (bit_ne h2 (by decide))), (fun h h2 => c0 (bit_ne h (by decide)) (bit_ne h2 (by decide))), (fun h => c1 (bit_ne h (by decide))), (fun _ => rfl), (fun h => c3 (bit_ne h (by decide))), (fun h => c4 (bit_ne h (by decide))), (fun h => c5 (bit_ne h (by decide))), (fun h => c6 (bit_ne h (by decide))), (fun h => c7 (bit_ne h (by decide))), (fun h h2 => c8 (bit_ne h (by decide)) (bit_ne h2 (by decide))), (fun h h2 => c9 (bit_ne h (by decide)) (bit_ne h2 (by decide))), (fun h => c10 (bit_ne h (by decide))), (fun h => c11 (bit_ne h (by decide))), (fun h => c12 (bit_ne h (by decide))), (fun h => c13 (bit_ne h (by decide))), (fun h => c14 (bit_ne h (by decide))), (fun h h2 => c15 (bit_ne h (by decide)) (bit_ne h2 (by decide))), (fun h => c16 (bit_ne h (by decide))), (fun h => c17 (bit_ne h (by decide))), (fun h => c18 (bit_ne h (by decide))), (fun h => c19 (bit_ne h (by decide))), (fun h => c20 (bit_ne h (by decide))), (fun h h2 => c21 (bit_ne h (by decide)) (bit_ne h2 (by decide))), (fun h => c22 (bit_ne h (by decide)))⟩
          · obtain rfl := Option.some.inj ho
            have hsz : 3 < listed.size := by rw [hls]; decide
            have hdep1 : listed.getD 1 false = true := hall ⟨1, .data⟩ (by simp) (by rfl)
            obtain rfl := c1 hdep1
            have hdep2 : listed.getD 2 false = true := hall ⟨2, .data⟩ (by simp) (by rfl)
            obtain rfl := c2 hdep2
            have hbw := hbW
            refine inv_val (w' := w) (.pointer (some ⟨b, o + i * 33, none⟩)) rfl rfl (by go_simp) ?_
            exact ⟨s4, s17, (.slice (some ⟨b, o, none⟩) n cap), (.int .i64 i), (.pointer (some ⟨b, o + i * 33, none⟩)), s21, s22, s23, s24, s25, s26, s27, s28, s29, s30, s31, s32, s33, s34, s35, s36, s37, s38, rfl, hbw, (fun h2 => cx (bit_ne h2 (by decide))), (fun h2 => cy (bit_ne h2 (by decide))), (fun h h2 => c0 (bit_ne h (by decide)) (bit_ne h2 (by decide))), (fun h => c1 (bit_ne h (by decide))), (fun h => c2 (bit_ne h (by decide))), (fun _ => rfl), (fun h => c4 (bit_ne h (by decide))), (fun h => c5 (bit_ne h (by decide))), (fun h => c6 (bit_ne h (by decide))), (fun h => c7 (bit_ne h (by decide))), (fun h h2 => c8 (bit_ne h (by decide)) (bit_ne h2 (by decide))), (fun h h2 => c9 (bit_ne h (by decide)) (bit_ne h2 (by decide))), (fun h => c10 (bit_ne h (by decide))), (fun h => c11 (bit_ne h (by decide))), (fun h => c12 (bit_ne h (by decide))), (fun h => c13 (bit_ne h (by decide))), (fun h => c14 (bit_ne h (by decide))), (fun h h2 => c15 (bit_ne h (by decide)) (bit_ne h2 (by decide))), (fun h => c16 (bit_ne h (by decide))), (fun h => c17 (bit_ne h (by decide))), (fun h => c18 (bit_ne h (by decide))), (fun h => c19 (bit_ne h (by decide))), (fun h => c20 (bit_ne h (by decide))), (fun h h2 => c21 (bit_ne h (by decide)) (bit_ne h2 (by decide))), (fun h => c22 (bit_ne h (by decide)))⟩
          · obtain rfl := Option.some.inj ho
            have hsz : 4 < listed.size := by rw [hls]; decide
            have hdep3 : listed.getD 3 false = true := hall ⟨3, .data⟩ (by simp) (by rfl)
            obtain rfl := c3 hdep3
            have hbw := hbW
            refine inv_val (w' := w) (.pointer (some ⟨b, o + i * 33, none⟩)) rfl rfl (by go_simp) ?_
            exact ⟨s4, s17, s18, s19, (.pointer (some ⟨b, o + i * 33, none⟩)), (.pointer (some ⟨b, o + i * 33, none⟩)), s22, s23, s24, s25, s26, s27, s28, s29, s30, s31, s32, s33, s34, s35, s36, s37, s38, rfl, hbw, (fun h2 => cx (bit_ne h2 (by decide))), (fun h2 => cy (bit_ne h2 (by decide))), (fun h h2 => c0 (bit_ne h (by decide)) (bit_ne h2 (by decide))), (fun h => c1 (bit_ne h (by decide))), (fun h => c2 (bit_ne h (by decide))), (fun h => c3 (bit_ne h (by decide))), (fun _ => rfl), (fun h => c5 (bit_ne h (by decide))), (fun h => c6 (bit_ne h (by decide))), (fun h => c7 (bit_ne h (by decide))), (fun h h2 => c8 (bit_ne h (by decide)) (bit_ne h2 (by decide))), (fun h h2 => c9 (bit_ne h (by decide)) (bit_ne h2 (by decide))), (fun h => c10 (bit_ne h (by decide))), (fun h => c11 (bit_ne h (by decide))), (fun h => c12 (bit_ne h (by decide))), (fun h => c13 (bit_ne h (by decide))), (fun h => c14 (bit_ne h (by decide))), (fun h h2 => c15 (bit_ne h (by decide)) (bit_ne h2 (by decide))), (fun h => c16 (bit_ne h (by decide))), (fun h => c17 (bit_ne h (by decide))), (fun h => c18 (bit_ne h (by decide))), (fun h => c19 (bit_ne h (by decide))), (fun h => c20 (bit_ne h (by decide))), (fun h h2 => c21 (bit_ne h (by decide)) (bit_ne h2 (by decide))), (fun h => c22 (bit_ne h (by decide)))⟩
          · obtain rfl := Option.some.inj ho
            have hsz : 5 < listed.size := by rw [hls]; decide
            have hdep4 : listed.getD 4 false = true := hall ⟨4, .data⟩ (by simp) (by rfl)
            obtain rfl := c4 hdep4
            have hbw := hbW
            refine inv_val (w' := w) (.string sx) rfl rfl (by have hq := hc w hbW; go_simp) ?_
            exact ⟨s4, s17, s18, s19, s20, (.pointer (some ⟨b, o + i * 33, none⟩)), (.string sx), s23, s24, s25, s26, s27, s28, s29, s30, s31, s32, s33, s34, s35, s36, s37, s38, rfl, hbw, (fun h2 => cx (bit_ne h2 (by decide))), (fun h2 => cy (bit_ne h2 (by decide))), (fun h h2 => c0 (bit_ne h (by decide)) (bit_ne h2 (by decide))), (fun h => c1 (bit_ne h (by decide))), (fun h => c2 (bit_ne h (by decide))), (fun h => c3 (bit_ne h (by decide))), (fun h => c4 (bit_ne h (by decide))), (fun _ => rfl), (fun h => c6 (bit_ne h (by decide))), (fun h => c7 (bit_ne h (by decide))), (fun h h2 => c8 (bit_ne h (by decide)) (bit_ne h2 (by decide))), (fun h h2 => c9 (bit_ne h (by decide)) (bit_ne h2 (by decide))), (fun h => c10 (bit_ne h (by decide))), (fun h => c11 (bit_ne h (by decide))), (fun h => c12 (bit_ne h (by decide))), (fun h => c13 (bit_ne h (by decide))), (fun h => c14 (bit_ne h (by decide))), (fun h h2 => c15 (bit_ne h (by decide)) (bit_ne h2 (by decide))), (fun h => c16 (bit_ne h (by decide))), (fun h => c17 (bit_ne h (by decide))), (fun h => c18 (bit_ne h (by decide))), (fun h => c19 (bit_ne h (by decide))), (fun h => c20 (bit_ne h (by decide))), (fun h h2 => c21 (bit_ne h (by decide)) (bit_ne h2 (by decide))), (fun h => c22 (bit_ne h (by decide)))⟩
          · obtain rfl := Option.some.inj ho
            have hsz : 6 < listed.size := by rw [hls]; decide
            have hdep5 : listed.getD 5 false = true := hall ⟨5, .data⟩ (by simp) (by rfl)
            obtain rfl := c5 hdep5
            have hbw := hbW
            refine inv_val (w' := w) (.int .i64 (sx.size : Int)) rfl rfl (by go_simp) ?_
            exact ⟨s4, s17, s18, s19, s20, s21, (.string sx), (.int .i64 (sx.size : Int)), s24, s25, s26, s27, s28, s29, s30, s31, s32, s33, s34, s35, s36, s37, s38, rfl, hbw, (fun h2 => cx (bit_ne h2 (by decide))), (fun h2 => cy (bit_ne h2 (by decide))), (fun h h2 => c0 (bit_ne h (by decide)) (bit_ne h2 (by decide))), (fun h => c1 (bit_ne h (by decide))), (fun h => c2 (bit_ne h (by decide))), (fun h => c3 (bit_ne h (by decide))), (fun h => c4 (bit_ne h (by decide))), (fun h => c5 (bit_ne h (by decide))), (fun _ => rfl), (fun h => c7 (bit_ne h (by decide))), (fun h h2 => c8 (bit_ne h (by decide)) (bit_ne h2 (by decide))), (fun h h2 => c9 (bit_ne h (by decide)) (bit_ne h2 (by decide))), (fun h => c10 (bit_ne h (by decide))), (fun h => c11 (bit_ne h (by decide))), (fun h => c12 (bit_ne h (by decide))), (fun h => c13 (bit_ne h (by decide))), (fun h => c14 (bit_ne h (by decide))), (fun h h2 => c15 (bit_ne h (by decide)) (bit_ne h2 (by decide))), (fun h => c16 (bit_ne h (by decide))), (fun h => c17 (bit_ne h (by decide))), (fun h => c18 (bit_ne h (by decide))), (fun h => c19 (bit_ne h (by decide))), (fun h => c20 (bit_ne h (by decide))), (fun h h2 => c21 (bit_ne h (by decide)) (bit_ne h2 (by decide))), (fun h => c22 (bit_ne h (by decide)))⟩
          · obtain rfl := Option.some.inj ho
            have hsz : 7 < listed.size := by rw [hls]; decide
            have hdep6 : listed.getD 6 false = true := hall ⟨6, .data⟩ (by simp) (by rfl)
            obtain rfl := c6 hdep6
            have hbw := hbW
            refine inv_val (w' := w) (.int .u8 (sx.size : Int)) rfl rfl (by go_simp; exact wrap100 hsx) ?_
            exact ⟨s4, s17, s18, s19, s20, s21, s22, (.int .i64 (sx.size : Int)), (.int .u8 (sx.size : Int)), s25, s26, s27, s28, s29, s30, s31, s32, s33, s34, s35, s36, s37, s38, rfl, hbw, (fun h2 => cx (bit_ne h2 (by decide))), (fun h2 => cy (bit_ne h2 (by decide))), (fun h h2 => c0 (bit_ne h (by decide)) (bit_ne h2 (by decide))), (fun h => c1 (bit_ne h (by decide))), (fun h => c2 (bit_ne h (by decide))), (fun h => c3 (bit_ne h (by decide))), (fun h => c4 (bit_ne h (by decide))), (fun h => c5 (bit_ne h (by decide))), (fun h => c6 (bit_ne h (by decide))), (fun _ => rfl), (fun h h2 => c8 (bit_ne h (by decide)) (bit_ne h2 (by decide))), (fun h h2 => c9 (bit_ne h (by decide)) (bit_ne h2 (by decide))), (fun h => c10 (bit_ne h (by decide))), (fun h => c11 (bit_ne h (by decide))), (fun h => c12 (bit_ne h (by decide))), (fun h => c13 (bit_ne h (by decide))), (fun h => c14 (bit_ne h (by decide))), (fun h h2 => c15 (bit_ne h (by decide)) (bit_ne h2 (by decide))), (fun h => c16 (bit_ne h (by decide))), (fun h => c17 (bit_ne h (by decide))), (fun h => c18 (bit_ne h (by decide))), (fun h => c19 (bit_ne h (by decide))), (fun h => c20 (bit_ne h (by decide))), (fun h h2 => c21 (bit_ne h (by decide)) (bit_ne h2 (by decide))), (fun h => c22 (bit_ne h (by decide)))⟩
          · obtain rfl := Option.some.inj ho
            have hsz : 8 < listed.size := by rw [hls]; decide
            have hdep7 : listed.getD 7 false = true := hall ⟨7, .data⟩ (by simp) (by rfl)
            obtain rfl := c7 hdep7
            have hbw : Below B wr (w.alloc (.cells (v8 [(sx.size : Int)]) 5)) := hbW.alloc (hsB hbW) _
            refine inv_val (.slice (some ⟨w.heap.size, 0, none⟩) 1 1) (w' := w.alloc (.cells (v8 [(sx.size : Int)]) 5)) rfl rfl (by kernel_rfl) ?_
            exact ⟨s4, s17, s18, s19, s20, s21, s22, s23, (.int .u8 (sx.size : Int)), (.slice (some ⟨w.heap.size, 0, none⟩) 1 1), s26, s27, s28, s29, s30, s31, s32, s33, s34, s35, s36, s37, s38, rfl, hbw, (fun h2 => (cx (bit_ne h2 (by decide))).alloc _), (fun h2 => cy (bit_ne h2 (by decide))), (fun h h2 => (c0 (bit_ne h (by decide)) (bit_ne h2 (by decide))).alloc _), (fun h => c1 (bit_ne h (by decide))), (fun h => c2 (bit_ne h (by decide))), (fun h => c3 (bit_ne h (by decide))), (fun h => c4 (bit_ne h (by decide))), (fun h => c5 (bit_ne h (by decide))), (fun h => c6 (bit_ne h (by decide))), (fun h => c7 (bit_ne h (by decide))), (fun _ _ => LitS.new w B (hsB hbW) 1 [(sx.size : Int)] (by rfl)), (fun h h2 => (c9 (bit_ne h (by decide)) (bit_ne h2 (by decide))).alloc _), (fun h => c10 (bit_ne h (by decide))), (fun h => c11 (bit_ne h (by decide))), (fun h => c12 (bit_ne h (by decide))), (fun h => c13 (bit_ne h (by decide))), (fun h => c14 (bit_ne h (by decide))), (fun h h2 => (c15 (bit_ne h (by decide)) (bit_ne h2 (by decide))).alloc _), (fun h => c16 (bit_ne h (by decide))), (fun h => c17 (bit_ne h (by decide))), (fun h => c18 (bit_ne h (by decide))), (fun h => c19 (bit_ne h (by decide))), (fun h => c20 (bit_ne h (by decide))), (fun h h2 => (c21 (bit_ne h (by decide)) (bit_ne h2 (by decide))).alloc _), (fun h => (c22 (bit_ne h (by decide))).alloc _)⟩
          · obtain rfl := Option.some.inj ho
            have hsz : 9 < listed.size := by rw [hls]; decide
            have hdep0 : listed.getD 0 false = true := hall ⟨0, .data⟩ (by simp) (by rfl)
            obtain ⟨sp0, cap0, rfl, o0⟩ := c0 hdep0 hi
            have hdep8 : listed.getD 8 false = true := hall ⟨8, .data⟩ (by simp) (by rfl)
            obtain ⟨b8, rfl, r8, hb8⟩ := c8 hdep8 hi
            refine inv_op rfl rfl (wp8g (.tmp 17) (.tmp 25) 27 5 rfl B Try.underlying27 info5 _ L0 rfl o0 (some ⟨b8, 0, none⟩) 1 1 [(sx.size : Int)] rfl rfl (fun h => by cases h) r8.bytes (by first | omega | simp | (simp; omega)) (hsB hbW) ?_)
            intro sp cap w' ow hb' hgg
            have hg := Grew.of hgg
            have hbw : Below B wr w' := hbW.trans hb'
            have hown := o0
            rw [hX1] at ow ⊢
            exact ⟨s4, (.slice sp0 n8 cap0), s18, s19, s20, s21, s22, s23, s24, (.slice (some ⟨b8, 0, none⟩) 1 1), (.slice sp (n8 + 1) cap), s27, s28, s29, s30, s31, s32, s33, s34, s35, s36, s37, s38, rfl, hbw, (fun h2 => absurd (bit_on hsz) (by rw [h2]; decide)), (fun h2 => cy (bit_ne h2 (by decide))), (fun _ h2 => absurd (bit_on hsz) (by rw [h2]; decide)), (fun h => c1 (bit_ne h (by decide))), (fun h => c2 (bit_ne h (by decide))), (fun h => c3 (bit_ne h (by decide))), (fun h => c4 (bit_ne h (by decide))), (fun h => c5 (bit_ne h (by decide))), (fun h => c6 (bit_ne h (by decide))), (fun h => c7 (bit_ne h (by decide))), (fun _ h2 => absurd (bit_on hsz) (by rw [h2]; decide)), (fun _ _ => ⟨sp, cap, rfl, ow⟩), (fun h => c10 (bit_ne h (by decide))), (fun h => c11 (bit_ne h (by decide))), (fun h => c12 (bit_ne h (by decide))), (fun h => c13 (bit_ne h (by decide))), (fun h => c14 (bit_ne h (by decide))), (fun h _ => absurd (hcl 15 _ rfl (bit_ne h (by decide)) ⟨9, .data⟩ (by simp) rfl) (by rw [hi]; decide)), (fun h => c16 (bit_ne h (by decide))), (fun h => c17 (bit_ne h (by decide))), (fun h => c18 (bit_ne h (by decide))), (fun h => c19 (bit_ne h (by decide))), (fun h => c20 (bit_ne h (by decide))), (fun h _ => absurd (hcl 15 _ rfl (hcl 21 _ rfl (bit_ne h (by decide)) ⟨15, .data⟩ (by simp) rfl) ⟨9, .data⟩ (by simp) rfl) (by rw [hi]; decide)), (fun h => absurd (hcl 15 _ rfl (hcl 21 _ rfl (hcl 22 _ rfl (bit_ne h (by decide)) ⟨21, .data⟩ (by simp) rfl) ⟨15, .data⟩ (by simp) rfl) ⟨9, .data⟩ (by simp) rfl) (by rw [hi]; decide))⟩
          · obtain rfl := Option.some.inj ho
            have hsz : 10 < listed.size := by rw [hls]; decide
            have hbw := hbW
            refine inv_val (w' := w) (.slice (some ⟨b, o, none⟩) n cap) rfl rfl rfl ?_
            exact ⟨s4, s17, s18, s19, s20, s21, s22, s23, s24, s25, s26, (.slice (some ⟨b, o, none⟩) n cap), s28, s29, s30, s31, s32, s33, s34, s35, s36, s37, s38, rfl, hbw, (fun h2 => cx (bit_ne h2 (by decide))), (fun h2 => cy (bit_ne h2 (by decide))), (fun h h2 => c0 (bit_ne h (by decide)) (bit_ne h2 (by decide))), (fun h => c1 (bit_ne h (by decide))), (fun h => c2 (bit_ne h (by decide))), (fun h => c3 (bit_ne h (by decide))), (fun h => c4 (bit_ne h (by decide))), (fun h => c5 (bit_ne h (by decide))), (fun h => c6 (bit_ne h (by decide))), (fun h => c7 (bit_ne h (by decide))), (fun h h2 => c8 (bit_ne h (by decide)) (bit_ne h2 (by decide))), (fun h h2 => c9 (bit_ne h (by decide)) (bit_ne h2 (by decide))), (fun _ => rfl), (fun h => c11 (bit_ne h (by decide))), (fun h => c12 (bit_ne h (by decide))), (fun h => c13 (bit_ne h (by decide))), (fun h => c14 (bit_ne h (by decide))), (fun h h2 => c15 (bit_ne h (by decide)) (bit_ne h2 (by decide))), (fun h => c16 (bit_ne h (by decide))), (fun h => c17 (bit_ne h (by decide))), (fun h => c18 (bit_ne h (by decide))), (fun h => c19 (bit_ne h (by decide))), (fun h => c20 (bit_ne h (by decide))), (fun h h2 => c21 (bit_ne h (by decide)) (bit_ne h2 (by decide))), (fun h => c22 (bit_ne h (by decide)))⟩
          · obtain rfl := Option.some.inj ho
            have hsz : 11 < listed.size := by rw [hls]; decide
            have hbw := hbW
            refine inv_val (w' := w) (.int .i64 i) rfl rfl rfl ?_
            exact ⟨s4, s17, s18, s19, s20, s21, s22, s23, s24, s25, s26, s27, (.int .i64 i), s29, s30, s31, s32, s33, s34, s35, s36, s37, s38, rfl, hbw, (fun h2 => cx (bit_ne h2 (by decide))), (fun h2 => cy (bit_ne h2 (by decide))), (fun h h2 => c0 (bit_ne h (by decide)) (bit_ne h2 (by decide))), (fun h => c1 (bit_ne h (by decide))), (fun h => c2 (bit_ne h (by decide))), (fun h => c3 (bit_ne h (by decide))), (fun h => c4 (bit_ne h (by decide))), (fun h => c5 (bit_ne h (by decide))), (fun h => c6 (bit_ne h (by decide))), (fun h => c7 (bit_ne h (by decide))), (fun h h2 => c8 (bit_ne h (by decide)) (bit_ne h2 (by decide))), (fun h h2 => c9 (bit_ne h (by decide)) (bit_ne h2 (by decide))), (fun h => c10 (bit_ne h (by decide))), (fun _ => rfl), (fun h => c12 (bit_ne h (by decide))), (fun h => c13 (bit_ne h (by decide))), (fun h => c14 (bit_ne h (by decide))), (fun h h2 => c15 (bit_ne h (by decide)) (bit_ne h2 (by decide))), (fun h => c16 (bit_ne h (by decide))), (fun h => c17 (bit_ne h (by decide))), (fun h => c18 (bit_ne h (by decide))), (fun h => c19 (bit_ne h (by decide))), (fun h => c20 (bit_ne h (by decide))), (fun h h2 => c21 (bit_ne h (by decide)) (bit_ne h2 (by decide))), (fun h => c22 (bit_ne h (by decide)))⟩
          · obtain rfl := Option.some.inj ho
            have hsz : 12 < listed.size := by rw [hls]; decide
            have hdep10 : listed.getD 10 false = true := hall ⟨10, .data⟩ (by simp) (by rfl)
            obtain rfl := c10 hdep10
            have hdep11 : listed.getD 11 false = true := hall ⟨11, .data⟩ (by simp) (by rfl)
            obtain rfl := c11 hdep11
            have hbw := hbW
            refine inv_val (w' := w) (.pointer (some ⟨b, o + i * 33, none⟩)) rfl rfl (by go_simp) ?_
            exact ⟨s4, s17, s18, s19, s20, s21, s22, s23, s24, s25, s26, (.slice (some ⟨b, o, none⟩) n cap), (.int .i64 i), (.pointer (some ⟨b, o + i * 33, none⟩)), s30, s31, s32, s33, s34, s35, s36, s37, s38, rfl, hbw, (fun h2 => cx (bit_ne h2 (by decide))), (fun h2 => cy (bit_ne h2 (by decide))), (fun h h2 => c0 (bit_ne h (by decide)) (bit_ne h2 (by decide))), (fun h => c1 (bit_ne h (by decide))), (fun h => c2 (bit_ne h (by decide))), (fun h => c3 (bit_ne h (by decide))), (fun h => c4 (bit_ne h (by decide))), (fun h => c5 (bit_ne h (by decide))), (fun h => c6 (bit_ne h (by decide))), (fun h => c7 (bit_ne h (by decide))), (fun h h2 => c8 (bit_ne h (by decide)) (bit_ne h2 (by decide))), (fun h h2 => c9 (bit_ne h (by decide)) (bit_ne h2 (by decide))), (fun h => c10 (bit_ne h (by decide))), (fun h => c11 (bit_ne h (by decide))), (fun _ => rfl), (fun h => c13 (bit_ne h (by decide))), (fun h => c14 (bit_ne h (by decide))), (fun h h2 => c15 (bit_ne h (by decide)) (bit_ne h2 (by decide))), (fun h => c16 (bit_ne h (by decide))), (fun h => c17 (bit_ne h (by decide))), (fun h => c18 (bit_ne h (by decide))), (fun h => c19 (bit_ne h (by decide))), (fun h => c20 (bit_ne h (by decide))), (fun h h2 => c21 (bit_ne h (by decide)) (bit_ne h2 (by decide))), (fun h => c22 (bit_ne h (by decide)))⟩
          · obtain rfl := Option.some.inj ho
            have hsz : 13 < listed.size := by rw [hls]; decide
            have hdep12 : listed.getD 12 false = true := hall ⟨12, .data⟩ (by simp) (by rfl)
            obtain rfl := c12 hdep12
            have hbw := hbW
            refine inv_val (w' := w) (.pointer (some ⟨b, o + i * 33, none⟩)) rfl rfl (by go_simp) ?_
            exact ⟨s4, s17, s18, s19, s20, s21, s22, s23, s24, s25, s26, s27, s28, (.pointer (some ⟨b, o + i * 33, none⟩)), (.pointer (some ⟨b, o + i * 33, none⟩)), s31, s32, s33, s34, s35, s36, s37, s38, rfl, hbw, (fun h2 => cx (bit_ne h2 (by decide))), (fun h2 => cy (bit_ne h2 (by decide))), (fun h h2 => c0 (bit_ne h (by decide)) (bit_ne h2 (by decide))), (fun h => c1 (bit_ne h (by decide))), (fun h => c2 (bit_ne h (by decide))), (fun h => c3 (bit_ne h (by decide))), (fun h => c4 (bit_ne h (by decide))), (fun h => c5 (bit_ne h (by decide))), (fun h => c6 (bit_ne h (by decide))), (fun h => c7 (bit_ne h (by decide))), (fun h h2 => c8 (bit_ne h (by decide)) (bit_ne h2 (by decide))), (fun h h2 => c9 (bit_ne h (by decide)) (bit_ne h2 (by decide))), (fun h => c10 (bit_ne h (by decide))), (fun h => c11 (bit_ne h (by decide))), (fun h => c12 (bit_ne h (by decide))), (fun _ => rfl), (fun h => c14 (bit_ne h (by decide))), (fun h h2 => c15 (bit_ne h (by decide)) (bit_ne h2 (by decide))), (fun h => c16 (bit_ne h (by decide))), (fun h => c17 (bit_ne h (by decide))), (fun h => c18 (bit_ne h (by decide))), (fun h => c19 (bit_ne h (by decide))), (fun h => c20 (bit_ne h (by decide))), (fun h h2 => c21 (bit_ne h (by decide)) (bit_ne h2 (by decide))), (fun h => c22 (bit_ne h (by decide)))⟩
          · obtain rfl := Option.some.inj ho
            have hsz : 14 < listed.size := by rw [hls]; decide
            have hdep13 : listed.getD 13 false = true := hall ⟨13, .data⟩ (by simp) (by rfl)
            obtain rfl := c13 hdep13
            have hbw := hbW
            refine inv_val (w' := w) (.string sx) rfl rfl (by have hq := hc w hbW; go_simp) ?_
            exact ⟨s4, s17, s18, s19, s20, s21, s22, s23, s24, s25, s26, s27, s28, s29, (.pointer (some ⟨b, o + i * 33, none⟩)), (.string sx), s32, s33, s34, s35, s36, s37, s38, rfl, hbw, (fun h2 => cx (bit_ne h2 (by decide))), (fun h2 => cy (bit_ne h2 (by decide))), (fun h h2 => c0 (bit_ne h (by decide)) (bit_ne h2 (by decide))), (fun h => c1 (bit_ne h (by decide))), (fun h => c2 (bit_ne h (by decide))), (fun h => c3 (bit_ne h (by decide))), (fun h => c4 (bit_ne h (by decide))), (fun h => c5 (bit_ne h (by decide))), (fun h => c6 (bit_ne h (by decide))), (fun h => c7 (bit_ne h (by decide))), (fun h h2 => c8 (bit_ne h (by decide)) (bit_ne h2 (by decide))), (fun h h2 => c9 (bit_ne h (by decide)) (bit_ne h2 (by decide))), (fun h => c10 (bit_ne h (by decide))), (fun h => c11 (bit_ne h (by decide))), (fun h => c12 (bit_ne h (by decide))), (fun h => c13 (bit_ne h (by decide))), (fun _ => rfl), (fun h h2 => c15 (bit_ne h (by decide)) (bit_ne h2 (by decide))), (fun h => c16 (bit_ne h (by decide))), (fun h => c17 (bit_ne h (by decide))), (fun h => c18 (bit_ne h (by decide))), (fun h => c19 (bit_ne h (by decide))), (fun h => c20 (bit_ne h (by decide))), (fun h h2 => c21 (bit_ne h (by decide)) (bit_ne h2 (by decide))), (fun h => c22 (bit_ne h (by decide)))⟩
          · obtain rfl := Option.some.inj ho
            have hsz : 15 < listed.size := by rw [hls]; decide
            have hdep9 : listed.getD 9 false = true := hall ⟨9, .data⟩ (by simp) (by rfl)
            obtain ⟨sp9, cap9, rfl, o9⟩ := c9 hdep9 hi
            have hdep14 : listed.getD 14 false = true := hall ⟨14, .data⟩ (by simp) (by rfl)
            obtain rfl := c14 hdep14
            refine inv_op rfl rfl (wp8s (.tmp 26) (.tmp 31) 27 9 5 rfl B Try.underlying27 Try.underlying9 info5 _ (L0 ++ [(sx.size : Int)]) rfl o9 sx rfl (by rw [hX1]; omega) (hsB hbW) ?_)
            intro sp cap w' ow hb' hgg
            have hg := Grew.of hgg
            have hbw : Below B wr w' := hbW.trans hb'
            have hown := o9
            rw [hX2] at ow ⊢
            exact ⟨s4, s17, s18, s19, s20, s21, s22, s23, s24, s25, (.slice sp9 (n8 + 1) cap9), s27, s28, s29, s30, (.string sx), (.slice sp (n8 + 1 + sx.size) cap), s33, s34, s35, s36, s37, s38, rfl, hbw, (fun h2 => absurd hdep9 (by rw [bit_ne h2 (by decide)]; decide)), (fun h2 => cy (bit_ne h2 (by decide))), (fun _ h2 => absurd hdep9 (by rw [bit_ne h2 (by decide)]; decide)), (fun h => c1 (bit_ne h (by decide))), (fun h => c2 (bit_ne h (by decide))), (fun h => c3 (bit_ne h (by decide))), (fun h => c4 (bit_ne h (by decide))), (fun h => c5 (bit_ne h (by decide))), (fun h => c6 (bit_ne h (by decide))), (fun h => c7 (bit_ne h (by decide))), (fun _ h2 => absurd hdep9 (by rw [bit_ne h2 (by decide)]; decide)), (fun _ h2 => absurd (bit_on hsz) (by rw [h2]; decide)), (fun h => c10 (bit_ne h (by decide))), (fun h => c11 (bit_ne h (by decide))), (fun h => c12 (bit_ne h (by decide))), (fun h => c13 (bit_ne h (by decide))), (fun h => c14 (bit_ne h (by decide))), (fun _ _ => ⟨sp, cap, rfl, ow⟩), (fun h => c16 (bit_ne h (by decide))), (fun h => c17 (bit_ne h (by decide))), (fun h => c18 (bit_ne h (by decide))), (fun h => c19 (bit_ne h (by decide))), (fun h => c20 (bit_ne h (by decide))), (fun h _ => absurd (hcl 21 _ rfl (bit_ne h (by decide)) ⟨15, .data⟩ (by simp) rfl) (by rw [hi]; decide)), (fun h => absurd (hcl 21 _ rfl (hcl 22 _ rfl (bit_ne h (by decide)) ⟨21, .data⟩ (by simp) rfl) ⟨15, .data⟩ (by simp) rfl) (by rw [hi]; decide))⟩
          · obtain rfl := Option.some.inj ho
            have hsz : 16 < listed.size := by rw [hls]; decide
            have hbw := hbW
            refine inv_val (w' := w) (.slice (some ⟨b, o, none⟩) n cap) rfl rfl rfl ?_
            exact ⟨s4, s17, s18, s19, s20, s21, s22, s23, s24, s25, s26, s27, s28, s29, s30, s31, s32, (.slice (some ⟨b, o, none⟩) n cap), s34, s35, s36, s37, s38, rfl, hbw, (fun h2 => cx (bit_ne h2 (by decide))), (fun h2 => cy (bit_ne h2 (by decide))), (fun h h2 => c0 (bit_ne h (by decide)) (bit_ne h2 (by decide))), (fun h => c1 (bit_ne h (by decide))), (fun h => c2 (bit_ne h (by decide))), (fun h => c3 (bit_ne h (by decide))), (fun h => c4 (bit_ne h (by decide))), (fun h => c5 (bit_ne h (by decide))), (fun h => c6 (bit_ne h (by decide))), (fun h => c7 (bit_ne h (by decide))), (fun h h2 => c8 (bit_ne h (by decide)) (bit_ne h2 (by decide))), (fun h h2 => c9 (bit_ne h (by decide)) (bit_ne h2 (by decide))), (fun h => c10 (bit_ne h (by decide))), (fun h => c11 (bit_ne h (by decide))), (fun h => c12 (bit_ne h (by decide))), (fun h => c13 (bit_ne h (by decide))), (fun h => c14 (bit_ne h (by decide))), (fun h h2 => c15 (bit_ne h (by decide)) (bit_ne h2 (by decide))), (fun _ => rfl), (fun h => c17 (bit_ne h (by decide))), (fun h => c18 (bit_ne h (by decide))), (fun h => c19 (bit_ne h (by decide))), (fun h => c20 (bit_ne h (by decide))), (fun h h2 => c21 (bit_ne h (by decide)) (bit_ne h2 (by decide))), (fun h => c22 (bit_ne h (by decide)))⟩
          · obtain rfl := Option.some.inj ho
            have hsz : 17 < listed.size := by rw [hls]; decide
            have hbw := hbW
            refine inv_val (w' := w) (.int .i64 i) rfl rfl rfl ?_
            exact ⟨s4, s17, s18, s19, s20, s21, s22, s23, s24, s25, s26, s27, s28, s29, s30, s31, s32, s33, (.int .i64 i), s35, s36, s37, s38, rfl, hbw, (fun h2 => cx (bit_ne h2 (by decide))), (fun h2 => cy (bit_ne h2 (by decide))), (fun h h2 => c0 (bit_ne h (by decide)) (bit_ne h2 (by decide))), (fun h => c1 (bit_ne h (by decide))), (fun h => c2 (bit_ne h (by decide))), (fun h => c3 (bit_ne h (by decide))), (fun h => c4 (bit_ne h (by decide))), (fun h => c5 (bit_ne h (by decide))), (fun h => c6 (bit_ne h (by decide))), (fun h => c7 (bit_ne h (by decide))), (fun h h2 => c8 (bit_ne h (by decide)) (bit_ne h2 (by decide))), (fun h h2 => c9 (bit_ne h (by decide)) (bit_ne h2 (by decide))), (fun h => c10 (bit_ne h (by decide))), (fun h => c11 (bit_ne h (by decide))), (fun h => c12 (bit_ne h (by decide))), (fun h => c13 (bit_ne h (by decide))), (fun h => c14 (bit_ne h (by decide))), (fun h h2 => c15 (bit_ne h (by decide)) (bit_ne h2 (by decide))), (fun h => c16 (bit_ne h (by decide))), (fun _ => rfl), (fun h => c18 (bit_ne h (by decide))), (fun h => c19 (bit_ne h (by decide))), (fun h => c20 (bit_ne h (by decide))), (fun h h2 => c21 (bit_ne h (by decide)) (bit_ne h2 (by decide))), (fun h => c22 (bit_ne h (by decide)))⟩
          · obtain rfl := Option.some.inj ho
            have hsz : 18 < listed.size := by rw [hls]; decide
            have hdep16 : listed.getD 16 false = true := hall ⟨16, .data⟩ (by simp) (by rfl)
            obtain rfl := c16 hdep16
            have hdep17 : listed.getD 17 false = true := hall ⟨17, .data⟩ (by simp) (by rfl)
            obtain rfl := c17 hdep17
            have hbw := hbW
            refine inv_val (w' := w) (.pointer (some ⟨b, o + i * 33, none⟩)) rfl rfl (by go_simp) ?_
            exact ⟨s4, s17, s18, s19, s20, s21, s22, s23, s24, s25, s26, s27, s28, s29, s30, s31, s32, (.slice (some ⟨b, o, none⟩) n cap), (.int .i64 i), (.pointer (some ⟨b, o + i * 33, none⟩)), s36, s37, s38, rfl, hbw, (fun h2 => cx (bit_ne h2 (by decide))), (fun h2 => cy (bit_ne h2 (by decide))), (fun h h2 => c0 (bit_ne h (by decide)) (bit_ne h2 (by decide))), (fun h => c1 (bit_ne h (by decide))), (fun h => c2 (bit_ne h (by decide))), (fun h => c3 (bit_ne h (by decide))), (fun h => c4 (bit_ne h (by decide))), (fun h => c5 (bit_ne h (by decide))), (fun h => c6 (bit_ne h (by decide))), (fun h => c7 (bit_ne h (by decide))), (fun h h2 => c8 (bit_ne h (by decide)) (bit_ne h2 (by decide))), (fun h h2 => c9 (bit_ne h (by decide)) (bit_ne h2 (by decide))), (fun h => c10 (bit_ne h (by decide))), (fun h => c11 (bit_ne h (by decide))), (fun h => c12 (bit_ne h (by decide))), (fun h => c13 (bit_ne h (by decide))), (fun h => c14 (bit_ne h (by decide))), (fun h h2 => c15 (bit_ne h (by decide)) (bit_ne h2 (by decide))), (fun h => c16 (bit_ne h (by decide))), (fun h => c17 (bit_ne h (by decide))), (fun _ => rfl), (fun h => c19 (bit_ne h (by decide))), (fun h => c20 (bit_ne h (by decide))), (fun h h2 => c21 (bit_ne h (by decide)) (bit_ne h2 (by decide))), (fun h => c22 (bit_ne h (by decide)))⟩
          · obtain rfl := Option.some.inj ho
            have hsz : 19 < listed.size := by rw [hls]; decide
            have hdep18 : listed.getD 18 false = true := hall ⟨18, .data⟩ (by simp) (by rfl)
            obtain rfl := c18 hdep18
            have hbw := hbW
            refine inv_val (w' := w) (.pointer (some ⟨b, o + i * 33 + 1, none⟩)) rfl rfl (by go_simp) ?_
            exact ⟨s4, s17, s18, s19, s20, s21, s22, s23, s24, s25, s26, s27, s28, s29, s30, s31, s32, s33, s34, (.pointer (some ⟨b, o + i * 33, none⟩)), (.pointer (some ⟨b, o + i * 33 + 1, none⟩)), s37, s38, rfl, hbw, (fun h2 => cx (bit_ne h2 (by decide))), (fun h2 => cy (bit_ne h2 (by decide))), (fun h h2 => c0 (bit_ne h (by decide)) (bit_ne h2 (by decide))), (fun h => c1 (bit_ne h (by decide))), (fun h => c2 (bit_ne h (by decide))), (fun h => c3 (bit_ne h (by decide))), (fun h => c4 (bit_ne h (by decide))), (fun h => c5 (bit_ne h (by decide))), (fun h => c6 (bit_ne h (by decide))), (fun h => c7 (bit_ne h (by decide))), (fun h h2 => c8 (bit_ne h (by decide)) (bit_ne h2 (by decide))), (fun h h2 => c9 (bit_ne h (by decide)) (bit_ne h2 (by decide))), (fun h => c10 (bit_ne h (by decide))), (fun h => c11 (bit_ne h (by decide))), (fun h => c12 (bit_ne h (by decide))), (fun h => c13 (bit_ne h (by decide))), (fun h => c14 (bit_ne h (by decide))), (fun h h2 => c15 (bit_ne h (by decide)) (bit_ne h2 (by decide))), (fun h => c16 (bit_ne h (by decide))), (fun h => c17 (bit_ne h (by decide))), (fun h => c18 (bit_ne h (by decide))), (fun _ => rfl), (fun h => c20 (bit_ne h (by decide))), (fun h h2 => c21 (bit_ne h (by decide)) (bit_ne h2 (by decide))), (fun h => c22 (bit_ne h (by decide)))⟩
          · obtain rfl := Option.some.inj ho
            have hsz : 20 < listed.size := by rw [hls]; decide
            have hdep19 : listed.getD 19 false = true := hall ⟨19, .data⟩ (by simp) (by rfl)
            obtain rfl := c19 hdep19
            have hbw := hbW
            refine inv_val (w' := w) (.slice (some ⟨b, o + i * 33 + 1, none⟩) 32 32) rfl rfl (by kernel_rfl) ?_
            exact ⟨s4, s17, s18, s19, s20, s21, s22, s23, s24, s25, s26, s27, s28, s29, s30, s31, s32, s33, s34, s35, (.pointer (some ⟨b, o + i * 33 + 1, none⟩)), (.slice (some ⟨b, o + i * 33 + 1, none⟩) 32 32), s38, rfl, hbw, (fun h2 => cx (bit_ne h2 (by decide))), (fun h2 => cy (bit_ne h2 (by decide))), (fun h h2 => c0 (bit_ne h (by decide)) (bit_ne h2 (by decide))), (fun h => c1 (bit_ne h (by decide))), (fun h => c2 (bit_ne h (by decide))), (fun h => c3 (bit_ne h (by decide))), (fun h => c4 (bit_ne h (by decide))), (fun h => c5 (bit_ne h (by decide))), (fun h => c6 (bit_ne h (by decide))), (fun h => c7 (bit_ne h (by decide))), (fun h h2 => c8 (bit_ne h (by decide)) (bit_ne h2 (by decide))), (fun h h2 => c9 (bit_ne h (by decide)) (bit_ne h2 (by decide))), (fun h => c10 (bit_ne h (by decide))), (fun h => c11 (bit_ne h (by decide))), (fun h => c12 (bit_ne h (by decide))), (fun h => c13 (bit_ne h (by decide))), (fun h => c14 (bit_ne h (by decide))), (fun h h2 => c15 (bit_ne h (by decide)) (bit_ne h2 (by decide))), (fun h => c16 (bit_ne h (by decide))), (fun h => c17 (bit_ne h (by decide))), (fun h => c18 (bit_ne h (by decide))), (fun h => c19 (bit_ne h (by decide))), (fun _ => rfl), (fun h h2 => c21 (bit_ne h (by decide)) (bit_ne h2 (by decide))), (fun h => c22 (bit_ne h (by decide)))⟩
          · obtain rfl := Option.some.inj ho
            have hsz : 21 < listed.size := by rw [hls]; decide
            have hdep15 : listed.getD 15 false = true := hall ⟨15, .data⟩ (by simp) (by rfl)
            obtain ⟨sp15, cap15, rfl, o15⟩ := c15 hdep15 hi
            have hdep20 : listed.getD 20 false = true := hall ⟨20, .data⟩ (by simp) (by rfl)
            obtain rfl := c20 hdep20
            refine inv_op rfl rfl (wp8g (.tmp 32) (.tmp 37) 27 5 rfl B Try.underlying27 info5 _ (L0 ++ [(sx.size : Int)] ++ bNum sx) rfl o15 (some ⟨b, o + i * 33 + 1, none⟩) 32 32 nd rfl hnd (fun h => by cases h) (hnb w hbW) (by first | omega | simp | (simp; omega)) (hsB hbW) ?_)
            intro sp cap w' ow hb' hgg
            have hg := Grew.of hgg
            have hbw : Below B wr w' := hbW.trans hb'
            have hown := o15
            rw [hX3] at ow ⊢
            exact ⟨s4, s17, s18, s19, s20, s21, s22, s23, s24, s25, s26, s27, s28, s29, s30, s31, (.slice sp15 (n8 + 1 + sx.size) cap15), s33, s34, s35, s36, (.slice (some ⟨b, o + i * 33 + 1, none⟩) 32 32), (.slice sp (n8 + 1 + sx.size + 32) cap), rfl, hbw, (fun h2 => absurd (hcl 15 _ rfl hdep15 ⟨9, .data⟩ (by simp) rfl) (by rw [bit_ne h2 (by decide)]; decide)), (fun h2 => cy (bit_ne h2 (by decide))), (fun _ h2 => absurd (hcl 15 _ rfl hdep15 ⟨9, .data⟩ (by simp) rfl) (by rw [bit_ne h2 (by decide)]; decide)), (fun h => c1 (bit_ne h (by decide))), (fun h => c2 (bit_ne h (by decide))), (fun h => c3 (bit_ne h (by decide))), (fun h => c4 (bit_ne h (by decide))), (fun h => c5 (bit_ne h (by decide))), (fun h => c6 (bit_ne h (by decide))), (fun h => c7 (bit_ne h (by decide))), (fun _ h2 => absurd (hcl 15 _ rfl hdep15 ⟨9, .data⟩ (by simp) rfl) (by rw [bit_ne h2 (by decide)]; decide)), (fun _ h2 => absurd hdep15 (by rw [bit_ne h2 (by decide)]; decide)), (fun h => c10 (bit_ne h (by decide))), (fun h => c11 (bit_ne h (by decide))), (fun h => c12 (bit_ne h (by decide))), (fun h => c13 (bit_ne h (by decide))), (fun h => c14 (bit_ne h (by decide))), (fun _ h2 => absurd (bit_on hsz) (by rw [h2]; decide)), (fun h => c16 (bit_ne h (by decide))), (fun h => c17 (bit_ne h (by decide))), (fun h => c18 (bit_ne h (by decide))), (fun h => c19 (bit_ne h (by decide))), (fun h => c20 (bit_ne h (by decide))), (fun _ _ => ⟨sp, cap, rfl, ow⟩), (fun h => absurd (hcl 22 _ rfl (bit_ne h (by decide)) ⟨21, .data⟩ (by simp) rfl) (by rw [hi]; decide))⟩
          · obtain rfl := Option.some.inj ho
            have hsz : 22 < listed.size := by rw [hls]; decide
            have hdep21 : listed.getD 21 false = true := hall ⟨21, .data⟩ (by simp) (by rfl)
            obtain ⟨sp21, cap21, rfl, o21⟩ := c21 hdep21 hi
            have hbw := hbW
            refine inv_val (w' := w) (.slice sp21 (n8 + 1 + sx.size + 32) cap21) rfl rfl rfl ?_
            exact ⟨(.slice sp21 (n8 + 1 + sx.size + 32) cap21), s17, s18, s19, s20, s21, s22, s23, s24, s25, s26, s27, s28, s29, s30, s31, s32, s33, s34, s35, s36, s37, (.slice sp21 (n8 + 1 + sx.size + 32) cap21), rfl, hbw, (fun h2 => absurd (hcl 15 _ rfl (hcl 21 _ rfl hdep21 ⟨15, .data⟩ (by simp) rfl) ⟨9, .data⟩ (by simp) rfl) (by rw [bit_ne h2 (by decide)]; decide)), (fun h2 => absurd (bit_on hsz) (by rw [h2]; decide)), (fun h h2 => c0 (bit_ne h (by decide)) (bit_ne h2 (by decide))), (fun h => c1 (bit_ne h (by decide))), (fun h => c2 (bit_ne h (by decide))), (fun h => c3 (bit_ne h (by decide))), (fun h => c4 (bit_ne h (by decide))), (fun h => c5 (bit_ne h (by decide))), (fun h => c6 (bit_ne h (by decide))), (fun h => c7 (bit_ne h (by decide))), (fun h h2 => c8 (bit_ne h (by decide)) (bit_ne h2 (by decide))), (fun h h2 => c9 (bit_ne h (by decide)) (bit_ne h2 (by decide))), (fun h => c10 (bit_ne h (by decide))), (fun h => c11 (bit_ne h (by decide))), (fun h => c12 (bit_ne h (by decide))), (fun h => c13 (bit_ne h (by decide))), (fun h => c14 (bit_ne h (by decide))), (fun h h2 => c15 (bit_ne h (by decide)) (bit_ne h2 (by decide))), (fun h => c16 (bit_ne h (by decide))), (fun h => c17 (bit_ne h (by decide))), (fun h => c18 (bit_ne h (by decide))), (fun h => c19 (bit_ne h (by decide))), (fun h => c20 (bit_ne h (by decide))), (fun _ h2 => absurd (bit_on hsz) (by rw [h2]; decide)), (fun _ => ⟨sp21, cap21, rfl, o21⟩)⟩
        · intro listed a w hall hJ
          obtain ⟨s4, s17, s18, s19, s20, s21, s22, s23, s24, s25, s26, s27, s28, s29, s30, s31, s32, s33, s34, s35, s36, s37, s38, rfl, hbW, cx, cy, c0, c1, c2, c3, c4, c5, c6, c7, c8, c9, c10, c11, c12, c13, c14, c15, c16, c17, c18, c19, c20, c21, c22⟩ := hJ
          obtain rfl := c1 (hall 1 (by decide))
          obtain rfl := c2 (hall 2 (by decide))
          obtain rfl := c3 (hall 3 (by decide))
          obtain rfl := c4 (hall 4 (by decide))
          obtain rfl := c5 (hall 5 (by decide))
          obtain rfl := c6 (hall 6 (by decide))
          obtain rfl := c7 (hall 7 (by decide))
          obtain rfl := c10 (hall 10 (by decide))
          obtain rfl := c11 (hall 11 (by decide))
          obtain rfl := c12 (hall 12 (by decide))
          obtain rfl := c13 (hall 13 (by decide))
          obtain rfl := c14 (hall 14 (by decide))
          obtain rfl := c16 (hall 16 (by decide))
          obtain rfl := c17 (hall 17 (by decide))
          obtain rfl := c18 (hall 18 (by decide))
          obtain rfl := c19 (hall 19 (by decide))
          obtain rfl := c20 (hall 20 (by decide))
          obtain ⟨sp22, cap22, rfl, o22⟩ := c22 (hall 22 (by decide))
          have bb := b1.trans (by rw [← hB]; exact hbW)
          clear hbW hc hc0 hsB hall hnb
          generalize w = w7 at *
          go_wp2
          go_roundw
          case rel => exact ⟨i + 1, sp22, _, cap22, rfl, by go_num, by omega, by rw [htk, ← hB]; exact o22, by rw [htk]; exact hX3, by omega, bb⟩
          case measure => simp [intOf]; omega
      · obtain rfl : i = n := by omega
        have htk : E.take i = E := by rw [← hl]; exact List.take_length
        rw [htk, ← hOE] at ow
        rw [htk, ← hOE] at hln
        go_wp2
        go_ret2
        exact ⟨sp, cw, by rw [hln]; rfl, by rw [hln]; exact ow, b1⟩
  · have hzb : (z == 0) = false := by simp [hz0]
    have hOE : O = [] := by rw [← hO, outD, if_neg (by rw [hz]; exact hz0)]
    subst hOE
    clear hO hz
    unfold Gives
    go_enter Try.func23, Try.ntmps23
    go_upto_region 2 with (go_at_call 43; (with_reducible refine Calls.mono (hck _ hE) ?_); rintro e1 w1 ⟨rfl, hb1⟩)
    have hE1 := hE.below hb1 (Nat.le_refl _)
    clear hE
    go_wp2_with (go_at_call 43; (with_reducible refine Calls.mono (hck _ hE1) ?_); rintro e2 w2 ⟨rfl, hb2⟩)
    go_ret2
    exact ⟨none, 0, rfl, own8_none _ _, hb1.trans (hb2.mono hb1.size)⟩
end Go.Proofs.Ytgcffdnbihfghaa
