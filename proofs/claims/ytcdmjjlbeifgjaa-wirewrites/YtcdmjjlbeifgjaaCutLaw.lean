/- WireCuts returns true and turns no old memory. -/
import Derived.Test.YtcdmjjlbeifgjaaParseAll
import Derived.Test.YtcdmjjlbeifgjaaEarly
import Derived.Deep.DeepCutAuto
namespace Go.Proofs.Ytcdmjjlbeifgjaa
open Go.RowKit

/-- A message whose bytes are cut to twenty. -/
def cutM (g : M) : M := { g with data := g.data.take 20 }
theorem cut_part (p : Int) (m : M) : partE p (cutM (goodM m)) = 0 := by
  have h := good_part p m
  by_cases h6 : p = 6
  · subst h6
    show dataE ((goodM m).data.take 20) = 0
    unfold dataE
    rw [if_neg (by simp; omega)]
  · have : partE p (cutM (goodM m)) = partE p (goodM m) := by
      unfold partE
      simp only [h6, if_false]
      rfl
    rw [this]; exact h
theorem cut_encE (m : M) : encE (cutM (goodM m)) = 0 := by
  obtain ⟨r, hr⟩ := rowOf_some _ (good_kind m)
  have hr' : rowOf (cutM (goodM m)).kind = some r := hr
  simp only [encE, hr']
  exact rowE_all _ (fun p => cut_part p m) r
theorem Own8.nilcap {w : World} {B : Nat} {e : TypeId} {sp : Option Addr} {n cap : Nat} {l : List Int} (h : Own8 w B e (.slice sp n cap) l) (hs : sp = none) : cap = 0 := by
  subst hs
  obtain ⟨_, h⟩ := h
  rcases h with ⟨hv, _⟩ | ⟨_, _, _, hv, _⟩
  · injection hv
  · injection hv with e1; cases e1
theorem Own8.capped {w : World} {B : Nat} {e : TypeId} {sp : Option Addr} {n cap : Nat} {l : List Int} (h : Own8 w B e (.slice sp n cap) l) : l.length ≤ cap := by
  obtain ⟨hl, h⟩ := h
  rcases h with ⟨_, h0⟩ | ⟨g, cap', cur, hv, hg, hh, hn, _⟩
  · omega
  · injection hv with e1 e2 e3; omega
theorem encB_len (m : M) (hk : m.key.length = 32) : (encB m).length ≤ 30000 := by
  unfold encB
  split
  · simp
  · rename_i r hr
    split
    · rename_i h
      have h4 := rowOf_len m.kind
      rw [hr, Option.getD_some] at h4
      have key : ∀ (r : List Int), rowE m r = 0 → (rowB m r).length ≤ r.length * 6002 := by
        intro r
        induction r with
        | nil => intro _; simp [rowB]
        | cons p r ih =>
          intro h
          rw [rowE] at h
          split at h
          · rename_i hp
            have h1 := partB_len p m hk hp
            have h2 := ih h
            have : rowB m (p :: r) = partB p m ++ rowB m r := by simp [rowB]
            rw [this, List.length_append, List.length_cons]; omega
          · rename_i hp; exact absurd h hp
      have := key r h
      rw [List.length_cons]; omega
    · simp

set_option maxRecDepth 20000 in
set_option maxHeartbeats 1000000 in
theorem cuts_main (m : M) (lp dp : Option Addr) (lc dc : Nat) (w : World) (hF : Fld w m lp lc dp dc) (h1 : m.list.length < 50) (h2 : m.data.length < 8000) (hbk : ∀ x ∈ m.key, 0 ≤ x ∧ x < 256) (hbd : ∀ x ∈ m.data, 0 ≤ x ∧ x < 256) :
    Calls Try.prog 5 #[.agg (mc m lp lc dp dc)] w fun e w' => e = .returned (.bool true) ∧ Below w.heap.size w w' := by
  have hk := hF.key
  have hkg : (goodM m).key.length = 32 := hk
  have hR0 := Row.new w 28 (mc m lp lc dp dc)
  have hF0 := hF.below ((Below.refl _ _).alloc (Nat.le_refl _) (.cells (mc m lp lc dp dc) 28))
  have hB0 : Below w.heap.size w (w.alloc (.cells (mc m lp lc dp dc) 28)) := (Below.refl _ _).alloc (Nat.le_refl _) _
  have hfew := fun w1 h => few_any m lp dp lc dc w1 h (by omega) (by omega) true (by simp; omega)
  have hgood := fun w1 h => good_any m lp dp lc dc w1 h (by omega) (by omega)
  have hlg : (goodM m).list.length ≤ 10 := by show ((m.list.take 10).map _).length ≤ 10; simp; omega
  have hdg : (goodM m).data.length ≤ 6000 := by show (m.data.take 6000).length ≤ 6000; simp; omega
  have hfld := fun (w' : World) (lp' : Option Addr) (lc' B : Nat) h1 h2 => goodFld (w' := w') (lp' := lp') (lc' := lc') (B := B) hF h1 h2
  have hdw : Bytes w dp (goodM m).data := hF.bytes.take 6000
  have hcE := cut_encE m
  have hck : (cutM (goodM m)).key.length = 32 := hk
  have hcd : (cutM (goodM m)).data = (goodM m).data.take 20 := rfl
  have hcby := encB_by (cutM (goodM m)) hbk (fun x hx => hbd x (List.mem_of_mem_take (List.mem_of_mem_take hx)))
  generalize goodM m = gm at *
  go_enter Try.func5, Try.ntmps5
  go_upto_region 6 with (first | (go_at_call 9; (with_reducible refine Calls.mono (known_any _) ?_); rintro e w1 ⟨rfl, hb1⟩; have hR1 := hR0.below hb1 hR0.lt; have hF1 := hF0.below hb1) | (refine load_rowW ?hw 28 (.tmp 1) (by rfl) w.heap.size (by rfl) 28 (mc m lp lc dp dc) (0, 0) _ hR1 Try.underlying28 rfl ?hi ?_; (case hw => rfl); (case hi => rw [mc_size hk]; exact info28)) | (go_at_call 10; (with_reducible refine Calls.mono (hfew _ hF1) ?_); rintro e w2 ⟨rfl, hb2⟩; replace hR1 := hR1.below hb2 hR1.lt; have hF2 := hF1.below hb2; have hb02 := hB0.trans ((hb1.mono hB0.size).trans (hb2.mono (Nat.le_trans hB0.size hb1.size)))) | (go_at_call 16; (with_reducible refine Calls.mono (hgood _ hF2) ?_); rintro e w3 ⟨lp3, lc3, rfl, ho3, hb3⟩; replace hR1 := hR1.below hb3 hR1.lt; have hb03 := hb02.trans (hb3.mono hb02.size)) | (refine store_row0 28 (.tmp 1) (.tmp 16) (by rfl) (by rfl) (by rfl) w.heap.size (mc gm lp3 lc3 dp dc) (by rfl) (by rfl) 28 (mc m lp lc dp dc) hR1 ?hi ?hold mc_one ?_; (case hi => rw [mc_size hkg]; exact info28); (case hold => rw [mc_size hkg, mc_size hk])))
  have hR := hR1.setRow (mc gm lp3 lc3 dp dc)
  have hb4 : Below w.heap.size w (w3.setRow w.heap.size (mc gm lp3 lc3 dp dc)) := below_setRow hb03 (Nat.le_refl _) _
  have ho4 := ho3.keepRow hR1 (by decide) (mc gm lp3 lc3 dp dc)
  have hF4 := hfld _ _ _ _ hb4 ho4
  generalize w3.setRow w.heap.size (mc gm lp3 lc3 dp dc) = W4 at *
  have hsz4 := hR.lt
  clear hR1 hR0 hF0 hB0 hgood hfew ho3 hb3 hb1 hb2 hF1 hF2
  have hc37 : W4.cell? ⟨w.heap.size, 37, none⟩ = some (.slice dp gm.data.length dc) := hR.cell.trans (mc37 hkg)
  have hf37 := hR.frozen (j := 37)
  have hdc := hF4.dcap
  have hdn := hF4.dnil
  obtain ⟨n, hn⟩ : ∃ n, n = (gm.data.take 20).length := ⟨_, rfl⟩
  have hnl : n ≤ dc := by rw [hn, List.length_take]; omega
  have hmin : Hid ((if (20 : Int) < (gm.data.length : Int) then (20 : Int) else (gm.data.length : Int)).toNat = n) := by
    show _ = _
    rw [hn, List.length_take]; split <;> omega
  go_upto_region 7 with (fail)
  rw [hmin.out]
  generalize (if (20 : Int) < (gm.data.length : Int) then (20 : Int) else (gm.data.length : Int)) = mn
  have ho5 := ho4.keep hR (by decide) 37 (u := .slice dp n dc)
  have hR5 := hR.set0 37 (.slice dp n dc)
  rw [mset37 hkg (gm.data.take 20) _ hn.symm] at hR5
  have hb5 := hb4.setCell (p := ⟨w.heap.size, 37, none⟩) (Nat.le_refl _) (.slice dp n dc)
  have hR6 : Row (W4.setCell ⟨w.heap.size, 37, none⟩ (.slice dp n dc)) w.heap.size 28 (mc (cutM gm) lp3 lc3 dp dc) := hR5
  have hF5 : Fld (W4.setCell ⟨w.heap.size, 37, none⟩ (.slice dp n dc)) (cutM gm) lp3 lc3 dp dc := ⟨hck, ho5.ints, (hdw.take 20).below hb5, ho5.capped, by show (gm.data.take 20).length ≤ dc; omega, fun h => ⟨(hdn h).1, by show (gm.data.take 20).length = 0; have := (hdn h).2; rw [List.length_take]; omega⟩⟩
  have henc := encode_any (cutM gm) lp3 dp lc3 dc _ hF5 (by show gm.list.length ≤ _; omega) (by show (gm.data.take 20).length ≤ _; rw [List.length_take]; omega)
  rw [hcE] at henc
  have hlen := encB_len (cutM gm) hck
  have hcut := fun j hj => par_cut (cutM gm) hck hcE j hj
  have hmore := par_more (cutM gm) hck hcE
  have hnil : encB (cutM gm) ≠ [] := by obtain ⟨r, _, _, hB, _⟩ := enc_row (cutM gm) hcE; rw [hB]; simp
  clear hR hR5 ho5 ho4 hF4 hc37 hf37 hmin hcE hdw
  generalize W4.setCell ⟨w.heap.size, 37, none⟩ (.slice dp n dc) = W5 at *
  generalize encB (cutM gm) = xs at *
  generalize cutM gm = cm at *
  go_wp2_with (first | (refine load_rowW ?hw 28 (.tmp 1) (by rfl) w.heap.size (by rfl) 28 (mc cm lp3 lc3 dp dc) (0, 0) _ hR6 Try.underlying28 rfl ?hi ?_; (case hw => rfl); (case hi => rw [mc_size hck]; exact info28)) | (go_at_call 11; (with_reducible refine Calls.mono (henc) ?_); rintro e w6 ⟨sp, cap, rfl, ho6, hb6⟩; have hb06 := hb5.trans (hb6.mono hb5.size)))
  have hp0 : 0 < xs.length := by cases xs with | nil => exact absurd rfl hnil | cons => simp
  have hcap6 : xs.length ≤ cap := ho6.capped
  obtain ⟨b6, o6, rfl, _⟩ := ho6.bytes hp0
  have hby6 := ho6.bytes
  clear hnil henc ho6 hb6
  go_loopw [5] (fun i wr => ∃ j : Nat, i = .int .i64 j ∧ j ≤ xs.length ∧ Bytes wr (some ⟨b6, o6, none⟩) xs ∧ Below w.heap.size w wr) (fun i _ => xs.length - (intOf i).toNat)
  case atStart => exact ⟨0, rfl, by omega, hby6, hb06⟩
  case round =>
    clear hby6 hb06
    obtain ⟨j, rfl, hj, hbyr, hbr⟩ := hrel
    by_cases hlt : j < xs.length
    · have hE := hcut j hlt
      have hpa := parse_any (xs.take j) (some ⟨b6, o6, none⟩) cap wr (hbyr.take j) (by rw [List.length_take]; omega) (fun x hx => hcby x (List.mem_of_mem_take hx)) (fun h => by cases h) (by rw [List.length_take]; omega)
      rw [show (xs.take j).length = j by rw [List.length_take]; omega] at hpa
      have hpa2 : Calls Try.prog 15 #[.slice (some ⟨b6, o6, none⟩) j cap] wr fun e w' => ∃ lp7 lc7 dp7 dc7, e = .returned (.tuple #[.agg (mc (mK 0) lp7 lc7 dp7 dc7), .int .i64 8]) ∧ Below wr.heap.size wr w' := by
        refine hpa.mono ?_
        rintro e w' ⟨lp7, lc7, dp7, dc7, rfl, _, _, _, hb7⟩
        rw [hE, parM_bad _ (by rw [hE]; decide)]
        exact ⟨lp7, lc7, dp7, dc7, rfl, hb7⟩
      clear hpa hE
      go_wp2_with (first | (go_at_call 15; (with_reducible refine Calls.mono (hpa2) ?_); rintro e w7 ⟨lp7, lc7, dp7, dc7, rfl, hb7⟩) | (refine store_row0 28 (.tmp 6) (.tmp 41) (by rfl) (by rfl) (by rfl) w7.heap.size (mc (mK 0) lp7 lc7 dp7 dc7) (by rfl) (by rfl) 28 (mc (mK 0) none 0 none 0) ?hrow ?hi ?hold mc_one ?_; (case hrow => exact Row.new w7 28 _); (case hi => rw [mc_size rfl]; exact info28); (case hold => rw [mc_size rfl, mc_size rfl])))
      have hb8 : Below wr.heap.size wr ((w7.alloc (.cells (mc (mK 0) none 0 none 0) 28)).setRow w7.heap.size (mc (mK 0) lp7 lc7 dp7 dc7)) := below_setRow (hb7.alloc hb7.size _) hb7.size _
      go_roundw
      case rel => exact ⟨j + 1, by go_num, by omega, hbyr.below hb8, hbr.trans (hb8.mono hbr.size)⟩
      case measure => simp [intOf]; omega
    · obtain rfl : j = xs.length := by omega
      have hoe : Own8 (wr.alloc (.cells #[] 5)) wr.heap.size 5 (.slice (some ⟨wr.heap.size, 0, none⟩) 0 0) [] := World.ownsRow_lit (base := wr.heap.size) (e := 5) (size := 1) wr #[] 0 (Nat.le_refl _) (by unfold maxLen; omega) rfl
      have hbye := hbyr.below ((Below.refl _ _).alloc (Nat.le_refl _) (.cells #[] 5))
      have hpar : ∀ (w8 : World) (sp8 : Option Addr) (cap8 : Nat), Own8 w8 wr.heap.size 5 (.slice sp8 (xs.length + 1) cap8) (xs ++ [7]) → Calls Try.prog 15 #[.slice sp8 (xs.length + 1) cap8] w8 fun e w' => ∃ lp9 lc9 dp9 dc9, e = .returned (.tuple #[.agg (mc (mK 0) lp9 lc9 dp9 dc9), .int .i64 9]) ∧ Below w8.heap.size w8 w' := by
        intro w8 sp8 cap8 ho8
        have hl8 : (xs ++ [7]).length = xs.length + 1 := by simp
        have hc8 := ho8.capped
        have hpa := parse_any (xs ++ [7]) sp8 cap8 w8 ho8.bytes (by rw [hl8]; omega) (fun x hx => (List.mem_append.1 hx).elim (hcby x) (fun h => by simp at h; omega)) ho8.nilcap hc8
        rw [hl8] at hpa
        refine hpa.mono ?_
        rintro e w' ⟨lp9, lc9, dp9, dc9, rfl, _, _, _, hb9⟩
        rw [hmore, parM_bad _ (by rw [hmore]; decide)]
        exact ⟨lp9, lc9, dp9, dc9, rfl, hb9⟩
      clear hcut hlt
      go_wp2_with (first | (at_builtin; (refine append8k (.tmp 46) (.tmp 47) 25 5 (by rfl) (by rfl) wr.heap.size Try.underlying25 info5 (.slice (some ⟨wr.heap.size, 0, none⟩) 0 0) [] (by rfl) ?ho (some ⟨b6, o6, none⟩) xs.length cap xs (by rfl) rfl ?hnil ?hby ?hlen ?hB ?_; (case ho => exact hoe); (case hnil => exact (fun h => by cases h)); (case hby => exact hbye); (case hlen => simp; omega); (case hB => simp); simp only [List.nil_append]; intro sp5 cap5 w5 o5 b5 k5)) | (at_builtin; (refine append8k (.tmp 48) (.tmp 49) 25 5 (by rfl) (by rfl) wr.heap.size Try.underlying25 info5 (.slice sp5 xs.length cap5) xs (by rfl) ?ho (some ⟨w5.heap.size, 0, none⟩) 1 1 [7] (by rfl) rfl ?hnil ?hby ?hlen ?hB ?_; (case ho => exact (o5.alloc _)); (case hnil => exact (fun h => by cases h)); (case hby => exact (bytes_new w5 5 [7])); (case hlen => omega); (case hB => exact Nat.le_trans (by have := b5.size; simp at this; exact Nat.le_of_succ_le this) (by simp)); simp only [List.length_append, List.length_cons, List.length_nil, Nat.zero_add]; intro sp8 cap8 w8 o8 b8 k8; have hpm := hpar w8 sp8 cap8 o8)) | (go_at_call 15; (with_reducible refine Calls.mono (hpm) ?_); rintro e w9 ⟨lp9, lc9, dp9, dc9, rfl, hb9⟩) | (refine store_row0 28 (.tmp 8) (.tmp 52) (by rfl) (by rfl) (by rfl) w9.heap.size (mc (mK 0) lp9 lc9 dp9 dc9) (by rfl) (by rfl) 28 (mc (mK 0) none 0 none 0) ?hrow ?hi ?hold mc_one ?_; (case hrow => exact Row.new w9 28 _); (case hi => rw [mc_size rfl]; exact info28); (case hold => rw [mc_size rfl, mc_size rfl])))
      go_ret
      have hs8 : wr.heap.size ≤ w8.heap.size := by have := b5.size; have := b8.size; simp at *; omega
      have hbb : Below w.heap.size w w8 := hbr.trans (((((Below.refl _ _).alloc (Nat.le_refl _) _).trans b5).trans (((Below.refl _ _).alloc (by have := b5.size; simp at this; omega) _).trans b8)).mono hbr.size)
      exact ⟨rfl, below_setRow ((hbb.trans (hb9.mono hbb.size)).alloc (by have := hb9.size; have := hbb.size; omega) _) (by have := hb9.size; have := hbb.size; omega) _⟩
theorem cuts_law (m : M) (lp dp : Option Addr) (lc dc : Nat) (w : World) (hF : Fld w m lp lc dp dc) (h1 : m.list.length ≤ 9223372036854775807) (h2 : m.data.length ≤ 9223372036854775807) (hbk : ∀ x ∈ m.key, 0 ≤ x ∧ x < 256) (hbd : ∀ x ∈ m.data, 0 ≤ x ∧ x < 256) :
    Calls Try.prog 5 #[.agg (mc m lp lc dp dc)] w fun e w' => e = .returned (.bool true) ∧ Below w.heap.size w w' := by
  by_cases hs : m.data.length < 8000 ∧ m.list.length < 50
  · exact cuts_main m lp dp lc dc w hF hs.2 hs.1 hbk hbd
  · exact early5 m lp dp lc dc w hF h1 h2 hs
end Go.Proofs.Ytcdmjjlbeifgjaa
