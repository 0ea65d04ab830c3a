/- The law's own 'few' and 'good': whether a message is not too much; a message such as may be written. -/
import Derived.Test.YtcdmjjlbeifgjaaLoad
import Derived.Deep.DeepCutAuto
namespace Go.Proofs.Ytcdmjjlbeifgjaa
open Go.RowKit

/-- A message such as may be written. -/
def goodM (m : M) : M := { kind := 1 + m.kind % 12, node := m.node % 10, pred := m.pred % 11 - 1, list := (m.list.take 10).map (· % 10), done := m.done, key := m.key, data := m.data.take 6000, lease := 1 + m.lease % 1000, err := m.err % 21 }
def m00 : M := ⟨0, 0, 0, [], false, List.replicate 32 0, [], 0, 0⟩
theorem lit00 : (#[.int .i64 0, .int .i64 0, .int .i64 0, .slice none 0 0, .bool false, .int .u8 0, .int .u8 0, .int .u8 0, .int .u8 0, .int .u8 0, .int .u8 0, .int .u8 0, .int .u8 0, .int .u8 0, .int .u8 0, .int .u8 0, .int .u8 0, .int .u8 0, .int .u8 0, .int .u8 0, .int .u8 0, .int .u8 0, .int .u8 0, .int .u8 0, .int .u8 0, .int .u8 0, .int .u8 0, .int .u8 0, .int .u8 0, .int .u8 0, .int .u8 0, .int .u8 0, .int .u8 0, .int .u8 0, .int .u8 0, .int .u8 0, .int .u8 0, .slice none 0 0, .int .i64 0, .int .i64 0] : Array Value) = mc m00 none 0 none 0 := rfl

set_option maxRecDepth 20000 in
set_option maxHeartbeats 1000000 in
theorem few_any (m : M) (lp dp : Option Addr) (lc dc : Nat) (w : World) (hF : Fld w m lp lc dp dc) (h1 : m.list.length ≤ 9223372036854775807) (h2 : m.data.length ≤ 9223372036854775807) (b : Bool) (hb : b = (decide (m.data.length < 8000) && decide (m.list.length < 50))) :
    Calls Try.prog 10 #[.agg (mc m lp lc dp dc)] w fun e w' => e = .returned (.bool b) ∧ Below w.heap.size w w' := by
  have hk := hF.key
  have hR := Row.new w 28 (mc m lp lc dp dc)
  have hc3 : (w.alloc (.cells (mc m lp lc dp dc) 28)).cell? ⟨w.heap.size, 3, none⟩ = _ := hR.cell.trans mc3
  have hc37 : (w.alloc (.cells (mc m lp lc dp dc) 28)).cell? ⟨w.heap.size, 37, none⟩ = _ := hR.cell.trans (mc37 hk)
  by_cases g1 : m.data.length < 8000
  · have g1' : decide ((m.data.length : Int) < 8000) = true := by simp; omega
    by_cases g2 : m.list.length < 50
    · have g2' : decide ((m.list.length : Int) < 50) = true := by simp; omega
      have hb' : b = true := by simp [hb, g1, g2]
      subst hb'
      clear hb
      go_enter Try.func10, Try.ntmps10
      go_wp2
      go_ret
      exact ⟨rfl, (Below.refl _ _).alloc (Nat.le_refl _) _⟩
    · have g2' : decide ((m.list.length : Int) < 50) = false := by simp; omega
      have hb' : b = false := by simp [hb]; omega
      subst hb'
      clear hb
      go_enter Try.func10, Try.ntmps10
      go_wp2
      go_ret
      exact ⟨rfl, (Below.refl _ _).alloc (Nat.le_refl _) _⟩
  · have g1' : decide ((m.data.length : Int) < 8000) = false := by simp; omega
    have hb' : b = false := by simp [hb]; omega
    subst hb'
    clear hb
    go_enter Try.func10, Try.ntmps10
    go_wp2
    go_ret
    exact ⟨rfl, (Below.refl _ _).alloc (Nat.le_refl _) _⟩

theorem OwnI.keep {w : World} {B g : Nat} {e t : TypeId} {v u : Value} {l : List Int} {vs : Array Value} (h : OwnI w B e v l) (hr : Row w g t vs) (hte : t ≠ e) (j : Nat) : OwnI (w.setCell ⟨g, j, none⟩ u) B e v l := by
  obtain ⟨hl, h⟩ := h
  refine ⟨hl, ?_⟩
  rcases h with h | ⟨g', cap', cur, hv, hg, hh, r⟩
  · exact .inl h
  · refine .inr ⟨g', cap', cur, hv, hg, ?_, r⟩
    rw [heap_setCell_other w ⟨g, j, none⟩ g' u (fun e1 => by
      subst e1
      unfold Row at hr
      rw [hr] at hh
      injection hh with hh; injection hh with _ hh
      exact hte hh)]
    exact hh

theorem goodFld {w w' : World} {m : M} {lp dp lp' : Option Addr} {lc dc lc' : Nat} {B : Nat} (hF : Fld w m lp lc dp dc) (hb : Below w.heap.size w w') (ho : OwnI w' B 3 (.slice lp' (goodM m).list.length lc') (goodM m).list) : Fld w' (goodM m) lp' lc' dp dc :=
  ⟨hF.key, ho.ints, (hF.bytes.take 6000).below hb, ho.capped, by show (m.data.take 6000).length ≤ dc; have := hF.dcap; rw [List.length_take]; omega, fun h => ⟨(hF.dnil h).1, by show (m.data.take 6000).length = 0; have := (hF.dnil h).2; rw [List.length_take]; omega⟩⟩
theorem OwnI.keepRow {w : World} {B g : Nat} {e t : TypeId} {v : Value} {l : List Int} {vs : Array Value} (h : OwnI w B e v l) (hr : Row w g t vs) (hte : t ≠ e) (cs : Array Value) : OwnI (w.setRow g cs) B e v l := by
  obtain ⟨hl, h⟩ := h
  refine ⟨hl, ?_⟩
  rcases h with h | ⟨g', cap', cur, hv, hg, hh, r⟩
  · exact .inl h
  · refine .inr ⟨g', cap', cur, hv, hg, ?_, r⟩
    rw [setRow_other w g g' cs (fun e1 => by
      subst e1
      unfold Row at hr
      rw [hr] at hh
      injection hh with hh; injection hh with _ hh
      exact hte hh)]
    exact hh

set_option maxRecDepth 20000 in
set_option maxHeartbeats 1000000 in
theorem good_any (m : M) (lp dp : Option Addr) (lc dc : Nat) (w : World) (hF : Fld w m lp lc dp dc) (h1 : m.list.length ≤ 274877906944) (h2 : m.data.length ≤ 274877906944) :
    Calls Try.prog 16 #[.agg (mc m lp lc dp dc)] w fun e w' => ∃ lp' lc', e = .returned (.agg (mc (goodM m) lp' lc' dp dc)) ∧ OwnI w' w.heap.size 3 (.slice lp' (goodM m).list.length lc') (goodM m).list ∧ Below w.heap.size w w' := by
  have hk := hF.key
  have hR := (Row.new w 28 (mc m lp lc dp dc)).alloc (.cells (mc m00 none 0 none 0) 28)
  have hS : Row ((w.alloc (.cells (mc m lp lc dp dc) 28)).alloc (.cells (mc m00 none 0 none 0) 28)) (w.heap.size + 1) 28 (mc m00 none 0 none 0) := Row.newAt _ 28 _ _ (by simp)
  have hb : Below w.heap.size w ((w.alloc (.cells (mc m lp lc dp dc) 28)).alloc (.cells (mc m00 none 0 none 0) 28)) := ((Below.refl _ _).alloc (Nat.le_refl _) _).alloc (by simp) _
  go_enter Try.func16, Try.ntmps16
  go_upto_region 1 with (fail)
  rw [lit00]
  generalize (w.alloc (.cells (mc m lp lc dp dc) 28)).alloc (.cells (mc m00 none 0 none 0) 28) = W at *
  have hc0 : W.cell? ⟨w.heap.size, 0, none⟩ = _ := hR.cell.trans mc0
  have hf0 := hR.frozen (j := 0)
  go_upto_region 2 with ((go_at_call 17; (with_reducible refine Calls.mono (within_any _ 12 _ (by decide) (by decide)) ?_); rintro e w9 ⟨rfl, hw⟩; obtain rfl := hw.symm; clear hw))
  clear hc0 hf0
  replace hR := hR.set0 0 (.int .i64 (1 + m.kind % 12))
  rw [mset0] at hR
  replace hS := hS.setOther (a := ⟨w.heap.size, 0, none⟩) (by simp) (.int .i64 (1 + m.kind % 12))
  replace hb := hb.setCell (p := ⟨w.heap.size, 0, none⟩) (Nat.le_refl _) (.int .i64 (1 + m.kind % 12))
  generalize hW' : W.setCell ⟨w.heap.size, 0, none⟩ (.int .i64 (1 + m.kind % 12)) = W1 at *
  clear hW' 
  have hc1 : W1.cell? ⟨w.heap.size, 1, none⟩ = _ := hR.cell.trans mc1
  have hf1 := hR.frozen (j := 1)
  have hc2 : W1.cell? ⟨w.heap.size, 2, none⟩ = _ := hR.cell.trans mc2
  have hf2 := hR.frozen (j := 2)
  go_upto_region 2 with (fail)
  go_cut [] (fun wx => Row wx w.heap.size 28 (mc { m with kind := 1 + m.kind % 12, node := m.node % 10, pred := m.pred % 11 - 1 } lp lc dp dc) ∧ Row wx (w.heap.size + 1) 28 (mc m00 none 0 none 0) ∧ Below w.heap.size w wx)
  case first =>
    have hx2 : ∀ v, (W1.setCell ⟨w.heap.size, 1, none⟩ v).cell? ⟨w.heap.size, 2, none⟩ = some (.int .i64 m.pred) := fun v => by rw [World.cell?_setCell_other _ _ _ _ (by simp)]; exact hc2
    have hw1 : IntKind.i64.wrap (m.pred % 11 - 1) = m.pred % 11 - 1 := by rw [IntKind.wrap_i64]; omega
    have hn10 := fun w1 => within_any m.node 10 w1 (by decide) (by decide)
    have hp11 := fun w1 => within_any m.pred 11 w1 (by decide) (by decide)
    go_region_with (first | (go_at_call_of 17 (Value.int IntKind.i64 m.node); (with_reducible refine Calls.mono (hn10 _) ?_); rintro e w9 ⟨rfl, hw⟩; obtain rfl := hw.symm; clear hw) | (go_at_call_of 17 (Value.int IntKind.i64 m.pred); (with_reducible refine Calls.mono (hp11 _) ?_); rintro e w9 ⟨rfl, hw⟩; obtain rfl := hw.symm; clear hw))
    all_goals
      go_wp2
      go_meet
      case rel => exact ⟨by have := (hR.set0 1 (.int .i64 (m.node % 10))).set0 2 (.int .i64 (m.pred % 11 - 1)); rw [mset1, mset2] at this; exact this.drew, ((hS.setOther (a := ⟨w.heap.size, 1, none⟩) (by simp) _).setOther (a := ⟨w.heap.size, 2, none⟩) (by simp) _).drew, ((hb.setCell (p := ⟨w.heap.size, 1, none⟩) (Nat.le_refl _) _).setCell (p := ⟨w.heap.size, 2, none⟩) (Nat.le_refl _) _).drew⟩
  case rest =>
    clear hR hS hb hc1 hc2 hf1 hf2
    obtain ⟨hR, hS, hb⟩ := hcut
    have hc38 : wc.cell? ⟨w.heap.size, 38, none⟩ = _ := hR.cell.trans (mc38 hk)
    have hf38 := hR.frozen (j := 38)
    go_upto_region 4 with ((go_at_call 17; (with_reducible refine Calls.mono (within_any _ 1000 _ (by decide) (by decide)) ?_); rintro e w9 ⟨rfl, hw⟩; obtain rfl := hw.symm; clear hw))
    clear hc38 hf38
    replace hR := hR.set0 38 (.int .i64 (1 + m.lease % 1000))
    rw [mset38 (by exact hk)] at hR
    replace hS := hS.setOther (a := ⟨w.heap.size, 38, none⟩) (by simp) (.int .i64 (1 + m.lease % 1000))
    replace hb := hb.setCell (p := ⟨w.heap.size, 38, none⟩) (Nat.le_refl _) (.int .i64 (1 + m.lease % 1000))
    generalize hW' : wc.setCell ⟨w.heap.size, 38, none⟩ (.int .i64 (1 + m.lease % 1000)) = W3 at *
    clear hW' 
    have hc39 : W3.cell? ⟨w.heap.size, 39, none⟩ = _ := hR.cell.trans (mc39 hk)
    have hf39 := hR.frozen (j := 39)
    go_upto_region 5 with ((go_at_call 17; (with_reducible refine Calls.mono (within_any _ 21 _ (by decide) (by decide)) ?_); rintro e w9 ⟨rfl, hw⟩; obtain rfl := hw.symm; clear hw))
    clear hc39 hf39
    replace hR := hR.set0 39 (.int .i64 (m.err % 21))
    rw [mset39 (by exact hk)] at hR
    replace hS := hS.setOther (a := ⟨w.heap.size, 39, none⟩) (by simp) (.int .i64 (m.err % 21))
    replace hb := hb.setCell (p := ⟨w.heap.size, 39, none⟩) (Nat.le_refl _) (.int .i64 (m.err % 21))
    generalize hW' : W3.setCell ⟨w.heap.size, 39, none⟩ (.int .i64 (m.err % 21)) = W4 at *
    clear hW' 
    obtain ⟨M4, hM4⟩ : ∃ M4 : M, M4 = { m with kind := 1 + m.kind % 12, node := m.node % 10, pred := m.pred % 11 - 1, lease := 1 + m.lease % 1000, err := m.err % 21 } := ⟨_, rfl⟩
    rw [← hM4] at hR
    have hml : M4.list = m.list := by rw [hM4]
    have hmd : M4.data = m.data := by rw [hM4]
    have hmk : M4.key = m.key := by rw [hM4]
    have hgood : Hid ({ M4 with list := (m.list.take 10).map (· % 10), data := m.data.take 6000 } = goodM m) := by rw [hM4]; exact (rfl : _ = goodM m)
    clear hM4
    go_wp2
    go_loopw [3, 4] (fun l i wr => ∃ k : Nat, i = .int .i64 k ∧ k ≤ m.list.length ∧ k ≤ 10 ∧ OwnI wr w.heap.size 3 l ((m.list.take k).map (· % 10)) ∧ Row wr w.heap.size 28 (mc M4 lp lc dp dc) ∧ Row wr (w.heap.size + 1) 28 (mc m00 none 0 none 0) ∧ Below w.heap.size w wr) (fun _ i _ => 10 - (intOf i).toNat)
    case atStart => exact ⟨0, rfl, by omega, by omega, by simpa using OwnI.nil _ _ _, hR, hS, hb⟩
    case round =>
      obtain ⟨k, rfl, hkl, hk10, ho, hRr, hSr, hbr⟩ := hrel
      clear hR hS hb
      have hc3 : wr.cell? ⟨w.heap.size, 3, none⟩ = some (.slice lp m.list.length lc) := by rw [hRr.cell, mc3, hml]
      obtain ⟨sp, cap, rfl⟩ := ho.form
      have hcl : ((m.list.take k).map (· % 10)).length ≤ 10 := by simp; omega
      by_cases hlt : k < m.list.length ∧ k < 10
      · obtain ⟨hlt1, hlt2⟩ := hlt
        have d1 : decide ((k : Int) < (m.list.length : Int)) = true := by simp; omega
        have d2 : decide ((k : Int) < 10) = true := by simp; omega
        have hsnoc : Hid ((m.list.take (k + 1)).map (· % 10) = (m.list.take k).map (· % 10) ++ [gi m.list k % 10]) := by
          show _ = _
          rw [take_gi m.list k hlt1]; simp
        obtain ⟨b, o, rfl, hc⟩ := hF.ints.below hbr (Nat.le_refl _) (by omega)
        have g1 := hc k hlt1
        clear hc
        generalize gi m.list k = x at *
        generalize (m.list.take k).map (· % 10) = cs at *
        go_wp2_with (first | (go_at_call 17; (with_reducible refine Calls.mono (within_any _ 10 _ (by decide) (by decide)) ?_); rintro e w9 ⟨rfl, hw⟩; obtain rfl := hw.symm; clear hw) | (at_builtin; (refine appendIk (.tmp 39) (.tmp 46) 22 3 (by rfl) (by rfl) w.heap.size Try.underlying22 info3 (.slice sp cs.length cap) cs (by rfl) ?ho (some ⟨wr.heap.size, 0, none⟩) 1 1 [x % 10] (by rfl) rfl ?hnil ?hby ?hlen ?hB ?_; (case ho => exact (ho.alloc _)); (case hnil => exact (fun h => by cases h)); (case hby => exact (ints_new wr 3 [x % 10])); (case hlen => omega); (case hB => exact Nat.le_trans hbr.size (by simp)); simp only [List.length_append, List.length_cons, List.length_nil, Nat.zero_add]; intro sp5 cap5 w5 o5 b5 k5)))
        have hR5 := k5 _ _ _ (by decide) (hRr.alloc _)
        have hS5 := k5 _ _ _ (by decide) (hSr.alloc _)
        go_roundw
        case rel => exact ⟨k + 1, by go_num, by omega, by omega, by rw [hsnoc.out]; simpa using o5, hR5, hS5, (hbr.alloc hbr.size _).trans b5⟩
        case measure => simp [intOf]; omega
      · obtain ⟨cs, hcs⟩ : ∃ cs, cs = (m.list.take k).map (· % 10) := ⟨_, rfl⟩
        have hall : Hid (cs = (m.list.take 10).map (· % 10)) := by
          show _ = _
          rw [hcs]
          by_cases h : k < m.list.length
          · rw [show k = 10 by omega]
          · rw [List.take_of_length_le (by omega), List.take_of_length_le (by omega)]
        rw [← hcs] at ho hcl
        rw [← hcs]
        clear hcs
        have hex : (decide ((k : Int) < (m.list.length : Int)) = false ∧ ¬ (k : Int) < (m.list.length : Int)) ∨ ((decide ((k : Int) < (m.list.length : Int)) = true ∧ (k : Int) < (m.list.length : Int)) ∧ decide ((k : Int) < 10) = false ∧ ¬ (k : Int) < 10) := by
          by_cases h : k < m.list.length
          · right; exact ⟨⟨by simp; omega, by omega⟩, by simp; omega, by omega⟩
          · left; exact ⟨by simp; omega, by omega⟩
        clear hlt
        rcases hex with ⟨d1, d2⟩ | ⟨⟨d1, d2⟩, d3, d4⟩
        all_goals
          clear hc3
          have hR' := hRr
          have hc3 : wr.cell? ⟨w.heap.size, 3, none⟩ = some (.slice lp m.list.length lc) := by rw [hRr.cell, mc3, hml]
          have hf3 := hRr.frozen (j := 3)
          go_upto_region 11 with (fail)
          have hR := hRr.set0 3 (.slice sp cs.length cap)
          rw [mset3 cs _ rfl] at hR
          have hS := hSr.setOther (a := ⟨w.heap.size, 3, none⟩) (by simp) (.slice sp cs.length cap)
          replace hbr := hbr.setCell (p := ⟨w.heap.size, 3, none⟩) (Nat.le_refl _) (.slice sp cs.length cap)
          replace ho : OwnI (wr.setCell ⟨w.heap.size, 3, none⟩ (.slice sp cs.length cap)) w.heap.size 3 (.slice sp cs.length cap) cs := ho.keep hR' (by decide) 3
          clear hR' hc3 hf3 hRr hSr
          generalize wr.setCell ⟨w.heap.size, 3, none⟩ (.slice sp cs.length cap) = W5 at *
          have hc37 : W5.cell? ⟨w.heap.size, 37, none⟩ = some (.slice dp m.data.length dc) := by rw [hR.cell, mc37 (by rw [← hmk] at hk; exact hk), hmd]
          have hf37 := hR.frozen (j := 37)
          have hdc := hF.dcap
          have hdn := hF.dnil
          have hk5 : (goodM m).key.length = 32 := hk
          obtain ⟨n, hn⟩ : ∃ n, n = (m.data.take 6000).length := ⟨_, rfl⟩
          have hnl : n ≤ dc := by rw [hn]; simp; omega
          have hn0 : dp = none → n = 0 := fun h => by have := (hdn h).2; rw [hn, List.length_take]; omega
          have hmin : Hid ((if (6000 : Int) < (m.data.length : Int) then (6000 : Int) else (m.data.length : Int)).toNat = n) := by
            show _ = _
            rw [hn, List.length_take]; split <;> omega
          go_upto_region 12 with (fail)
          rw [hmin.out]
          replace ho : OwnI (W5.setCell ⟨w.heap.size, 37, none⟩ (.slice dp n dc)) w.heap.size 3 (.slice sp cs.length cap) cs := ho.keep hR (by decide) 37
          replace hR := hR.set0 37 (.slice dp n dc)
          rw [mset37 (by rw [← hmk] at hk; exact hk) (m.data.take 6000) _ hn.symm] at hR
          replace hS := hS.setOther (a := ⟨w.heap.size, 37, none⟩) (by simp) (.slice dp n dc)
          replace hbr := hbr.setCell (p := ⟨w.heap.size, 37, none⟩) (Nat.le_refl _) (.slice dp n dc)
          have hll : (goodM m).list = cs := hall.out.symm
          have hR7 : Row (W5.setCell ⟨w.heap.size, 37, none⟩ (.slice dp n dc)) w.heap.size 28 (mc (goodM m) sp cap dp dc) := by rw [← hgood.out, ← hall.out]; exact hR
          clear hR hc37 hf37
          generalize W5.setCell ⟨w.heap.size, 37, none⟩ (.slice dp n dc) = W6 at *
          have hR := hR7
          clear hR7
          go_wp2_with (first | (refine load_rowW ?hw 28 (.tmp 1) (by rfl) w.heap.size (by rfl) 28 (mc (goodM m) sp cap dp dc) (0, 0) _ hR Try.underlying28 rfl ?hi ?_; (case hw => rfl); (case hi => rw [mc_size hk5]; exact info28)) | (refine store_row0 28 (.tmp 2) (.tmp 58) (by rfl) (by rfl) (by rfl) (w.heap.size + 1) (mc (goodM m) sp cap dp dc) (by rfl) (by rfl) 28 (mc m00 none 0 none 0) hS ?hi ?hold mc_one ?_; (case hi => rw [mc_size hk5]; exact info28); (case hold => rw [mc_size hk5, mc_size rfl])))
          all_goals
            have hB7 : Below w.heap.size w (W6.setRow (w.heap.size + 1) (mc (goodM m) sp cap dp dc)) := below_setRow hbr (by omega) _
            have ho7 := ho.keepRow hS (by decide) (mc (goodM m) sp cap dp dc)
            exact bodyPost_ret (results_cell_row Try.results16 _ _ (w.heap.size + 1) 28 (mc (goodM m) sp cap dp dc) (0, 0) _ rfl (hS.setRow _) Try.underlying28 rfl (by rw [mc_size hk5]; exact info28)) rfl ⟨sp, cap, rfl, ho7, hB7⟩
end Go.Proofs.Ytcdmjjlbeifgjaa
