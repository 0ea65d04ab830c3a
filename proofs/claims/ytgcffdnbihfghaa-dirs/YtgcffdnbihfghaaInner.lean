/- Inner: a block of hashes, written or refused. No old memory turns. -/
import Derived.Test.YtgcffdnbihfghaaInode
namespace Go.Proofs.Ytgcffdnbihfghaa
open Go Go.RowKit
/-- The j-th of the ids that lie one behind the other. -/
def cutF (F : List Int) (j : Nat) : List Int := (F.drop (32 * j)).take 32
theorem cutF_len {F : List Int} {n j : Nat} (hF : F.length = 32 * n) (hj : j < n) : (cutF F j).length = 32 := by simp [cutF]; omega
theorem take_cut (F : List Int) (j : Nat) : F.take (32 * j) ++ cutF F j = F.take (32 * (j + 1)) := by
  unfold cutF
  rw [show 32 * (j + 1) = 32 * j + 32 by omega, List.take_add]
def errI (n : Nat) : Int := if n = 0 then 1 else if 8 < n then 4 else 0
def outI (F : List Int) (n : Nat) : List Int := if errI n = 0 then [110, (n : Int)] ++ F else []
theorem outI_len {F : List Int} {n : Nat} (hF : F.length = 32 * n) (h : errI n = 0) : (outI F n).length = 2 + 32 * n := by unfold outI; rw [if_pos h]; simp [hF]; omega
def parI (F : List Int) (n j : Nat) : List Int := [110, (n : Int)] ++ F.take (32 * j) ++ zer (32 * (n - j))
theorem parI_len {F : List Int} {n j : Nat} (hF : F.length = 32 * n) (hj : j ≤ n) : (parI F n j).length = 2 + 32 * n := by simp [parI, zer_len, hF]; omega
theorem parI_next {F : List Int} {n j : Nat} (hF : F.length = 32 * n) (hj : j < n) : spl (parI F n j) (2 + 32 * j) (cutF F j) = parI F n (j + 1) := by
  have h1 : ([110, (n : Int)] ++ F.take (32 * j)).length = 2 + 32 * j := by simp [hF]; omega
  have h2 := spl_mid ([110, (n : Int)] ++ F.take (32 * j)) (cutF F j) (32 * (n - j))
  rw [h1, cutF_len hF hj] at h2
  unfold parI zer
  rw [h2, List.append_assoc _ (F.take (32 * j)), take_cut, show 32 * (n - j) - 32 = 32 * (n - (j + 1)) by omega]
theorem rangeF {w : World} {b o : Nat} {F : List Int} (h : Bytes w (some ⟨b, o, none⟩) F) {n j : Nat} (hF : F.length = 32 * n) (hj : j < n) : w.rangeAt b (o + j * 32) (v8 (cutF F j)).toList := fun k v hv => by
  have hl := cutF_len hF hj
  have hk : k < 32 := by
    have := (List.getElem?_eq_some_iff.1 hv).1
    simpa [v8, hl] using this
  obtain ⟨b', o', e, hc⟩ := h (by omega)
  cases e
  have hg := hc (32 * j + k) (by omega)
  rw [show o + j * 32 + k = o + (32 * j + k) by omega, hg]
  have hv2 : some v = some (.int .u8 (gi (cutF F j) k)) := by
    rw [← hv]; simp [v8, gi, show k < (cutF F j).length by omega]
  rw [hv2]
  have : gi (cutF F j) k = gi F (32 * j + k) := by simp [gi, cutF, List.getElem?_take_of_lt hk]
  rw [this]
set_option maxRecDepth 20000 in
set_option maxHeartbeats 1000000 in
theorem inner_any (F : List Int) (n : Nat) (pa : Option Addr) (ca : Nat) (w : World) (hF : F.length = 32 * n) (hn : n ≤ 1000000) (hb : Bytes w pa F) :
    Calls Try.prog 16 #[.slice pa n ca] w (Gives w (outI F n) (errI n)) := by
  by_cases h0 : n = 0
  · subst h0
    have hE : errI 0 = 1 := rfl
    have hO : outI F 0 = [] := rfl
    unfold Gives
    rw [hE, hO]
    go_enter Try.func16, Try.ntmps16
    go_wp2
    go_ret2
    exact ⟨none, 0, rfl, own8_none _ _, Below.refl _ _⟩
  by_cases h8 : 8 < n
  · have hE : errI n = 4 := by unfold errI; rw [if_neg h0, if_pos h8]
    have hO : outI F n = [] := by unfold outI; rw [hE, if_neg (by decide)]
    unfold Gives
    rw [hE, hO]
    go_enter Try.func16, Try.ntmps16
    go_wp2
    go_ret2
    exact ⟨none, 0, rfl, own8_none _ _, Below.refl _ _⟩
  have hE : errI n = 0 := by unfold errI; rw [if_neg h0, if_neg h8]
  have hO : outI F n = [110, (n : Int)] ++ F := by unfold outI; rw [if_pos hE]
  obtain ⟨b, o, rfl, hcl⟩ := hb (by omega)
  have hbl := block_lt_of_cell (hcl 0 (by omega))
  simp only at hbl
  clear hcl
  have hmk : ∀ wx, (Instr.makeSlice 27 (.int .i64 (2 + (n : Int) * 32)) (.int .i64 (2 + (n : Int) * 32))).run Try.prog wx = .ok (.slice (some ⟨wx.heap.size, 0, none⟩) (2 + 32 * n) (2 + 32 * n)) (wx.alloc (.cells (v8 (zer (2 + 32 * n))) 5)) := fun wx => make8 (2 + 32 * n) _ (by omega) (by omega) wx
  have hr0 : Row (w.alloc (.cells (v8 (zer (2 + 32 * n))) 5)) w.heap.size 5 (v8 (zer (2 + 32 * n))) := Row.new _ _ _
  have hb0 : Below w.heap.size w (w.alloc (.cells (v8 (zer (2 + 32 * n))) 5)) := (Below.refl _ _).alloc (Nat.le_refl _) _
  have hz0 : ((zer (2 + 32 * n)).set 0 110).set 1 (n : Int) = parI F n 0 := by
    have : zer (2 + 32 * n) = 0 :: 0 :: zer (32 * n) := by unfold zer; rw [show 2 + 32 * n = 32 * n + 2 by omega]; rfl
    rw [this]; simp [parI]
  obtain ⟨g, hg⟩ : ∃ g, g = w.heap.size := ⟨_, rfl⟩
  go_enter Try.func16, Try.ntmps16
  go_upto_region 6 with fail
  rw [← hg] at hr0 ⊢
  change Code.wp _ _ _ _ (w.alloc (.cells (v8 (zer (2 + 32 * n))) 5))
  generalize w.alloc (.cells (v8 (zer (2 + 32 * n))) 5) = w1 at hr0 hb0 ⊢
  have hgB : w.heap.size ≤ g := Nat.le_of_eq hg.symm
  clear hmk hg
  have c0 := hr0.cell8 (j := 0) (by rw [zer_len]; omega)
  have c1 := hr0.cell8 (j := 1) (by rw [zer_len]; omega)
  have f0 := hr0.frozen (j := 0)
  have f1 := hr0.frozen (j := 1)
  go_upto_region 7 with fail
  have r1 := (hr0.set8 0 110).set8 1 (n : Int)
  rw [hz0] at r1
  have b1 := (hb0.setCell (p := ⟨g, 0, none⟩) (by simp; omega) (.int .u8 110)).setCell (p := ⟨g, 1, none⟩) (by simp; omega) (.int .u8 (n : Int))
  change Code.wp _ _ _ _ ((w1.setCell ⟨g, 0, none⟩ (.int .u8 110)).setCell ⟨g, 1, none⟩ (.int .u8 (n : Int)))
  generalize (w1.setCell ⟨g, 0, none⟩ (.int .u8 110)).setCell ⟨g, 1, none⟩ (.int .u8 (n : Int)) = w2 at r1 b1 ⊢
  clear hr0 hb0 c0 c1 f0 f1 hz0
  go_wp2
  go_loopw [5, 30] (fun r i wr => ∃ j : Nat, j ≤ n ∧ i = .int .i64 j ∧ (j < n → r = .slice (some ⟨g, 2 + 32 * j, none⟩) (32 * (n - j)) (32 * (n - j))) ∧ Row wr g 5 (v8 (parI F n j)) ∧ Below w.heap.size w wr) (fun _ i _ => n - (intOf i).toNat)
  case atStart => exact ⟨0, by omega, rfl, fun _ => (by simp), r1, b1⟩
  case round =>
    obtain ⟨j, hj, rfl, hrs, r2, b2⟩ := hrel
    by_cases hjn : j < n
    · obtain ⟨off, hoff⟩ : ∃ off, 2 + 32 * j = off := ⟨_, rfl⟩
      obtain ⟨len, hln⟩ : ∃ len, 32 * (n - j) = len := ⟨_, rfl⟩
      have hrs1 := hrs hjn
      rw [hoff, hln] at hrs1
      subst hrs1
      have hlen1 : 32 ≤ len := by omega
      have hoff' : Hid (2 + 32 * j = off) := ⟨hoff⟩
      have hln' : Hid (32 * (n - j) = len) := ⟨hln⟩
      clear hrs
      have hcl := cutF_len hF hjn
      have hrg : wr.rangeAt b (o + j * 32) (v8 (cutF F j)).toList := rangeF (hb.below (b2.mono (by omega))) hF hjn
      have hi23c : (Try.prog.info? 23).map (·.size) = some (v8 (cutF F j)).toList.length := by rw [Array.length_toList, v8_size, hcl]; kernel_rfl
      have hi23 := info23 hcl
      have hold : (v8 (zer 32)).size = (v8 (cutF F j)).size := by rw [v8_size, v8_size, hcl, zer_len]
      have hnext := parI_next hF hjn
      rw [hoff] at hnext
      have hpl := parI_len hF hj
      have hfit : off + 32 ≤ (parI F n j).length := by omega
      clear hoff hln
      generalize parI F n j = PJ at *
      generalize hPK : parI F n (j + 1) = PK at *
      have hPK' : Hid (parI F n (j + 1) = PK) := ⟨hPK⟩
      clear hPK
      have hs2 := b2.size
      generalize cutF F j = C at *
      have hto : (v8 C).toList.toArray = v8 C := by simp
      go_upto_region 11 with (first
        | (refine wpList_load_mid (by rfl) 23 (.tmp 32) (by rfl) b (o + j * 32) (by rfl) (v8 C).toList _ hrg Try.underlying23 rfl hi23c ?_; rw [hto])
        | (refine store_row0 23 (.tmp 7) (.tmp 33) (by rfl) (by rfl) (by rfl) wr.heap.size (v8 C) (by rfl) (by rfl) 23 _ (Row.new _ _ _) hi23 hold (v8_one _) ?_))
      have x0 : Row ((wr.alloc (.cells (v8 (zer 32)) 23)).setRow wr.heap.size (v8 C)) wr.heap.size 23 (v8 C) := (Row.new _ _ _).setRow _
      have r3 := (r2.alloc (.cells (v8 (zer 32)) 23)).setRowOther (g := wr.heap.size) (by have := r2.lt; omega) (v8 C)
      have b3 := below_setRow (g := wr.heap.size) (b2.alloc hs2 (.cells (v8 (zer 32)) 23)) hs2 (v8 C)
      obtain ⟨gx, hgx⟩ : ∃ gx, gx = wr.heap.size := ⟨_, rfl⟩
      change Code.wp _ _ _ _ ((wr.alloc (.cells (v8 (zer 32)) 23)).setRow wr.heap.size (v8 C))
      rw [← hgx] at x0 r3 b3 ⊢
      have hgx2 : w.heap.size ≤ gx := by rw [hgx]; exact hs2
      try simp only [← hgx]
      generalize (wr.alloc (.cells (v8 (zer 32)) 23)).setRow gx (v8 C) = w3 at x0 r3 b3 ⊢
      clear hrg hgx r2 b2 hs2 hold hto
      have r4 := r3.setRow (v8 PK)
      have b4 := below_setRow (g := g) b3 hgB (v8 PK)
      have hn0 : ((n : Int) == 0) = false := by simp; omega
      by_cases hlast : len = 32
      · subst hlast
        refine wp_region_lit ?_
        iterate 9 go_step
        refine copy8 (w := w3) (.tmp 35) (.tmp 36) 27 27 (by rfl) (by rfl) 5 Try.underlying27 (by kernel_rfl) (some ⟨g, off, none⟩) (some ⟨gx, 0, none⟩) 32 32 32 32 (by rfl) (by rfl) g off PJ 5 r3 C (by rw [hcl]; rfl) (fun _ => rfl) x0.bytes (by rw [hcl]; exact hfit) ?_
        rw [hnext, hcl]
        go_wp2
        refine ⟨⟨_, _, _, _, _, _, _, _, _, _, _, _, ?rel1, by rw [hn0]⟩, ?measure1⟩
        case rel1 => exact ⟨j + 1, by omega, by go_num, fun h => absurd hln'.out (by omega), by rw [hPK'.out]; exact r4, b4⟩
        case measure1 => simp [intOf]; omega
      · refine wp_region_lit ?_
        iterate 9 go_step
        refine copy8 (w := w3) (.tmp 35) (.tmp 36) 27 27 (by rfl) (by rfl) 5 Try.underlying27 (by kernel_rfl) (some ⟨g, off, none⟩) (some ⟨gx, 0, none⟩) len len 32 32 (by rfl) (by rfl) g off PJ 5 r3 C (by rw [hcl]; omega) (fun _ => rfl) x0.bytes (by rw [hcl]; exact hfit) ?_
        rw [hnext, hcl]
        go_wp2
        refine ⟨⟨_, _, _, _, _, _, _, _, _, _, _, _, ?rel2, by rw [hn0]⟩, ?measure2⟩
        case rel2 => exact ⟨j + 1, by omega, by go_num, fun h => by have h1 := hoff'.out; have h2 := hln'.out; rw [show 2 + 32 * (j + 1) = off + 32 by omega, show 32 * (n - (j + 1)) = len - 32 by omega], by rw [hPK'.out]; exact r4, b4⟩
        case measure2 => simp [intOf]; omega
    · obtain rfl : j = n := by omega
      have hfin : parI F j j = [110, (j : Int)] ++ F := by unfold parI; rw [Nat.sub_self]; simp [zer, ← hF]
      rw [hfin] at r2
      have hlen := outI_len hF hE
      have hlen2 : ([110, (j : Int)] ++ F).length = 2 + 32 * j := by simp [hF]; omega
      go_wp2
      go_ret2
      exact ⟨some ⟨g, 0, none⟩, 2 + 32 * j, by rw [hlen]; rw [hE]; rfl, by rw [hO, hlen2]; exact (own8_row r2 hlen2 (by unfold maxLen; omega)).mono hgB, b2⟩
end Go.Proofs.Ytgcffdnbihfghaa
