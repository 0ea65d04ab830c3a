/- WireWrites returns true. -/
import Derived.Test.YtcdmjjlbeifgjaaSameDx
import Derived.Test.YtcdmjjlbeifgjaaSameEx
import Derived.Test.YtcdmjjlbeifgjaaRencAllx
import Derived.Test.YtcdmjjlbeifgjaaGood
import Derived.Test.YtcdmjjlbeifgjaaCutLaw
import Derived.Test.YtcdmjjlbeifgjaaMild
namespace Go.Proofs.Ytcdmjjlbeifgjaa

section
open Go Go.RowKit
theorem q_load_rowW {P : Program} {ops : Array Oper} {ι : Type} {W : ι → World} {Q : Act → Prop} {rest : List Oper} {o : Oper} {a : Act} (ty : TypeId) (x : Operand) (ho : o.op = .load ty x) (hgd : Region.wanted o (yielded ops a.tmps) = true)
    (g : Nat) (hx : a.eval x = .pointer (some ⟨g, 0, none⟩)) (t : TypeId) (cs : Array Value) (d : TypeDesc) (hr : ∀ i, Row (W i) g t cs)
    (hu : P.underlying ty = some d) (hd : (match d with | .struct _ | .array _ _ => true | _ => false) = true) (hi : (P.info? ty).map (·.size) = some cs.size)
    (h : wpQuiet P ops (fun w' => ∃ i, w' = W i) Q rest (a.put o.dst (.agg cs))) : wpQuiet P ops (fun w' => ∃ i, w' = W i) Q (o :: rest) a := by
  unfold wpQuiet
  rw [if_pos hgd]
  refine ⟨.agg cs, fun w hw => ?_, h⟩
  obtain ⟨i, rfl⟩ := hw
  unfold Oper.quietAt execOp
  simp only [ho, hx, Instr.loadAt, Instr.sureAddr, Sem.run_bind, Sem.run_pure, Result.andThen_ok, run_loadVar_row (W i) g t ty cs (0, 0) d (hr i) hu hd hi]
  exact ⟨rfl, rfl⟩
theorem own_nil0 {w : World} {B n cap : Nat} {e : TypeId} {sp : Option Addr} {l : List Int} (h : Own8 w B e (.slice sp n cap) l) : sp = none → cap = 0 ∧ n = 0 := fun hs => by
  obtain ⟨_, h⟩ := h
  rcases h with ⟨h1, h2⟩ | ⟨g', cap', cur, hv, _⟩
  · injection h1 with h3 h4 h5
    exact ⟨h5, h4⟩
  · injection hv with h3 h4 h5
    rw [hs] at h3; cases h3
set_option maxRecDepth 20000 in
set_option maxHeartbeats 8000000 in
theorem writes_main (m o : M) (lp dp lq dq : Option Addr) (lc dc ld dd : Nat) (w : World) (hF : Fld w m lp lc dp dc) (hG : Fld w o lq ld dq dd) (kF : By m.key) (yF : By m.data) (yG : By o.data) (h1 : m.list.length < 50) (h2 : m.data.length < 8000) (h3 : o.list.length < 50) (h4 : o.data.length < 8000) :
    Calls Try.prog 3 #[.agg (mc m lp lc dp dc), .agg (mc o lq ld dq dd)] w fun e w' => e = .returned (.bool true) ∧ Below w.heap.size w w' := by
  have hb0 : Below w.heap.size w (World.alloc (World.alloc w (.cells (mc m lp lc dp dc) 28)) (.cells (mc o lq ld dq dd) 28)) := ((Below.refl _ _).alloc (Nat.le_refl _) _).alloc (by simp) _
  have rA : Row (World.alloc (World.alloc w (.cells (mc m lp lc dp dc) 28)) (.cells (mc o lq ld dq dd) 28)) w.heap.size 28 (mc m lp lc dp dc) := (Row.new _ _ _).alloc _
  have rB : Row (World.alloc (World.alloc w (.cells (mc m lp lc dp dc) 28)) (.cells (mc o lq ld dq dd) 28)) (w.heap.size + 1) 28 (mc o lq ld dq dd) := by
    have := Row.new (World.alloc w (.cells (mc m lp lc dp dc) 28)) 28 (mc o lq ld dq dd)
    simpa using this
  obtain ⟨ga, hga⟩ : ∃ ga, w.heap.size = ga := ⟨_, rfl⟩
  obtain ⟨gb, hgb⟩ : ∃ gb, ga + 1 = gb := ⟨_, rfl⟩
  have hfm := fun w1 h => few_any m lp dp lc dc w1 h (by omega) (by omega) true (by simp; omega)
  have hfo := fun w1 h => few_any o lq dq ld dd w1 h (by omega) (by omega) true (by simp; omega)
  have hkm := hF.key
  have hko := hG.key
  rw [hga] at rA
  rw [hga, hgb] at rB
  go_enter Try.func3, Try.ntmps3
  go_upto_region 1 with fail
  change Code.wp _ _ _ _ (World.alloc (World.alloc w (.cells (mc m lp lc dp dc) 28)) (.cells (mc o lq ld dq dd) 28))
  generalize (World.alloc (World.alloc w (.cells (mc m lp lc dp dc) 28)) (.cells (mc o lq ld dq dd) 28)) = w1 at *
  try simp only [hga, hgb]
  have hF1 := hF.below hb0
  go_upto_region 5 with (first | (go_at_call 9; (with_reducible refine Calls.mono (known_any _) ?_); rintro e w2 ⟨rfl, hb2⟩; have rA2 := rA.below hb2 rA.lt; have rB2 := rB.below hb2 rB.lt; have b2 := hb0.trans (hb2.mono hb0.size)) | (refine load_rowW ?hw 28 (.tmp 2) (by rfl) ga (by rfl) 28 (mc m lp lc dp dc) (0, 0) _ rA2 Try.underlying28 rfl ?hi ?_; (case hw => rfl); (case hi => rw [mc_size hkm]; exact info28)) | (go_at_call 10; (with_reducible refine Calls.mono (hfm _ (hF.below b2)) ?_); rintro e w3 ⟨rfl, hb3⟩; have rA3 := rA2.below hb3 rA2.lt; have rB3 := rB2.below hb3 rB2.lt; have b3 := b2.trans (hb3.mono b2.size)) | (refine load_rowW ?hw 28 (.tmp 3) (by rfl) gb (by rfl) 28 (mc o lq ld dq dd) (0, 0) _ rB3 Try.underlying28 rfl ?hi ?_; (case hw => rfl); (case hi => rw [mc_size hko]; exact info28)) | (go_at_call 10; (with_reducible refine Calls.mono (hfo _ (hG.below b3)) ?_); rintro e w4 ⟨rfl, hb4⟩))
  have rA4 := rA3.below hb4 rA3.lt
  have rB4 := rB3.below hb4 rB3.lt
  have b4 := b3.trans (hb4.mono b3.size)
  clear rA rB rA2 rB2 rA3 rB3 hb0 hb2 hb3 hb4 b2 b3 hfm hfo hF1
  have hnab : ga ≠ gb := by omega
  have hgaw : w.heap.size ≤ ga := by omega
  go_wp2
  go_loopw [5] (fun kv wr => ∃ (k : Nat) (x : M) (p1 : Option Addr) (c1 : Nat), kv = .int .i64 (k : Int) ∧ k ≤ 2 ∧ (k = 0 ∨ encE x = 0) ∧ Row wr ga 28 (mc x p1 c1 dp dc) ∧ Row wr gb 28 (mc o lq ld dq dd) ∧ Fld wr x p1 c1 dp dc ∧ x.list.length ≤ 100 ∧ x.data.length ≤ 8000 ∧ By x.key ∧ By x.data ∧ Bytes w dp x.data ∧ Below w.heap.size w wr) (fun kv _ => 2 - (intOf kv).toNat)
  case atStart => exact ⟨0, m, lp, lc, rfl, by omega, .inl rfl, rA4, rB4, hF.below b4, by omega, by omega, kF, yF, hF.bytes, b4⟩
  case round =>
    clear rA4 rB4 b4 kF yF h1 h2
    obtain ⟨k, x, p1, c1, rfl, hk, hz, qA, qB, hX, hxl, hxd, kX, yX, bX, b1⟩ := hrel
    have hkx := hX.key
    have hLX : (encB x).length ≤ 30000 := encB_len x hkx
    by_cases hk2 : k < 2
    · have hk2i : (k : Int) < 2 := by omega
      have hen := fun wx h => encode_any x p1 dp c1 dc wx h (by omega) (by omega)
      have hre := fun wx h => renc_any x p1 dp c1 dc wx h (by omega) (by omega)
      have hgd := fun wx h => good_any x p1 dp c1 dc wx h (by omega) (by omega)
      have hbk := same_back x hkx
      have hby := encB_by x kX yX
      obtain ⟨BS, hBS⟩ : ∃ BS, encB x = BS := ⟨_, rfl⟩
      obtain ⟨EE, hEE⟩ : ∃ EE, encE x = EE := ⟨_, rfl⟩
      rw [hBS] at hLX hby hbk
      rw [hEE] at hbk
      simp only [hBS, hEE] at hen hre
      have hEE' : Hid (encE x = EE) := hEE
      have hBS' : Hid (encB x = BS) := hBS
      clear hBS hEE hz
      go_upto_region 10 with (first | (refine load_rowW ?hw 28 (.tmp 2) (by rfl) ga (by rfl) 28 (mc x p1 c1 dp dc) (0, 0) _ qA Try.underlying28 rfl ?hi ?_; (case hw => rfl); (case hi => rw [mc_size hkx]; exact info28)) | (go_at_call 11; (with_reducible refine Calls.mono (hen _ hX) ?_); rintro e w2 ⟨sA, cA, rfl, oA, hb2⟩; have qA2 := qA.below hb2 qA.lt) | (refine load_rowW ?hw 28 (.tmp 2) (by rfl) ga (by rfl) 28 (mc x p1 c1 dp dc) (0, 0) _ qA2 Try.underlying28 rfl ?hi ?_; (case hw => rfl); (case hi => rw [mc_size hkx]; exact info28)) | (go_at_call 12; (with_reducible refine Calls.mono (hre _ (hX.below hb2)) ?_); rintro e w3 ⟨sB, cB, rfl, oB, hb3⟩))
      have b23 : Below wr.heap.size wr w3 := hb2.trans (hb3.mono hb2.size)
      have zA := qA.below b23 qA.lt
      have zB := qB.below b23 qB.lt
      have oA3 := oA.below hb3 (Nat.le_refl _)
      have hX3 := hX.below b23
      have b3 := b1.trans (b23.mono b1.size)
      have hO3 := hG.below b3
      clear qA qB qA2 oA hb2 hb3 b23 hen hre hX
      obtain ⟨T, hT⟩ : ∃ T, sameM x o = T := ⟨_, rfl⟩
      have hsxo := fun wx h1 h2 => same_any x o p1 dp lq dq c1 dc ld dd wx h1 h2 yX yG (by omega)
      have hrxo := fun wx h1 h2 => rsame_any x o p1 dp lq dq c1 dc ld dd wx h1 h2 yX yG (by omega)
      have hsxx := fun wx h1 => same_any x x p1 dp p1 dp c1 dc c1 dc wx h1 h1 yX yX (by omega)
      rw [hT] at hsxo hrxo
      rw [same_refl] at hsxx
      clear hT
      have hn1 : (!decide (T = T)) = false := by simp
      refine region_tail 24 (by kernel_rfl) (by kernel_rfl) (by kernel_rfl) ?_
      apply Exists.intro
      refine ⟨fun ι _ WW hb hc => ?_, fun w4 hb4 => ?_⟩
      · have ra := fun i => zA.below (hb i) zA.lt
        have rb := fun i => zB.below (hb i) zB.lt
        have s1 : ∀ i, (convert 25 9 (.slice sA BS.length cA)).run Try.prog (WW i) = .ok (.string (strOfNums BS)) (WW i) := fun i => run_str (WW i) sA _ cA BS rfl (oA3.bytes.below (hb i)) (fun h => (own_nil0 oA3 h).2)
        have s2 : ∀ i, (convert 25 9 (.slice sB BS.length cB)).run Try.prog (WW i) = .ok (.string (strOfNums BS)) (WW i) := fun i => run_str (WW i) sB _ cB BS rfl (oB.bytes.below (hb i)) (fun h => (own_nil0 oB h).2)
        have k1 := fun i => hsxo (WW i) (hX3.below (hb i)) (hO3.below (hb i))
        have k2 := fun i => hrxo (WW i) (hX3.below (hb i)) (hO3.below (hb i))
        have k3 := fun i => hsxx (WW i) (hX3.below (hb i))
        simp only [List.take_succ_cons, List.take_zero]
        iterate 11 (go_big_quiet_step (first | (go_at_call 13; with_reducible exact (k1 _).mono (fun e w' ⟨he, hw⟩ => ⟨he, hc _ _ hw⟩)) | (go_at_call 14; exact (k2 _).mono (fun e w' ⟨he, hw⟩ => ⟨he, hc _ _ hw⟩)) | (go_at_call 13; with_reducible exact (k3 _).mono (fun e w' ⟨he, hw⟩ => ⟨he, hc _ _ hw⟩))))
        (refine q_load_rowW 28 (.tmp 2) (by rfl) (by kernel_rfl) ga (by rfl) 28 (mc x p1 c1 dp dc) _ ra Try.underlying28 rfl (by rw [mc_size hkx]; exact info28) ?_; simp only [Act.put, List.setIfInBounds_toArray, List.set_cons_succ, List.set_cons_zero])
        (refine q_load_rowW 28 (.tmp 3) (by rfl) (by kernel_rfl) gb (by rfl) 28 (mc o lq ld dq dd) _ rb Try.underlying28 rfl (by rw [mc_size hko]; exact info28) ?_; simp only [Act.put, List.setIfInBounds_toArray, List.set_cons_succ, List.set_cons_zero])
        iterate 1 (go_big_quiet_step (first | (go_at_call 13; with_reducible exact (k1 _).mono (fun e w' ⟨he, hw⟩ => ⟨he, hc _ _ hw⟩)) | (go_at_call 14; exact (k2 _).mono (fun e w' ⟨he, hw⟩ => ⟨he, hc _ _ hw⟩)) | (go_at_call 13; with_reducible exact (k3 _).mono (fun e w' ⟨he, hw⟩ => ⟨he, hc _ _ hw⟩))))
        (refine q_load_rowW 28 (.tmp 2) (by rfl) (by kernel_rfl) ga (by rfl) 28 (mc x p1 c1 dp dc) _ ra Try.underlying28 rfl (by rw [mc_size hkx]; exact info28) ?_; simp only [Act.put, List.setIfInBounds_toArray, List.set_cons_succ, List.set_cons_zero])
        (refine q_load_rowW 28 (.tmp 3) (by rfl) (by kernel_rfl) gb (by rfl) 28 (mc o lq ld dq dd) _ rb Try.underlying28 rfl (by rw [mc_size hko]; exact info28) ?_; simp only [Act.put, List.setIfInBounds_toArray, List.set_cons_succ, List.set_cons_zero])
        iterate 4 (go_big_quiet_step (first | (go_at_call 13; with_reducible exact (k1 _).mono (fun e w' ⟨he, hw⟩ => ⟨he, hc _ _ hw⟩)) | (go_at_call 14; exact (k2 _).mono (fun e w' ⟨he, hw⟩ => ⟨he, hc _ _ hw⟩)) | (go_at_call 13; with_reducible exact (k3 _).mono (fun e w' ⟨he, hw⟩ => ⟨he, hc _ _ hw⟩))))
        (refine q_load_rowW 28 (.tmp 2) (by rfl) (by kernel_rfl) ga (by rfl) 28 (mc x p1 c1 dp dc) _ ra Try.underlying28 rfl (by rw [mc_size hkx]; exact info28) ?_; simp only [Act.put, List.setIfInBounds_toArray, List.set_cons_succ, List.set_cons_zero])
        (refine q_load_rowW 28 (.tmp 2) (by rfl) (by kernel_rfl) ga (by rfl) 28 (mc x p1 c1 dp dc) _ ra Try.underlying28 rfl (by rw [mc_size hkx]; exact info28) ?_; simp only [Act.put, List.setIfInBounds_toArray, List.set_cons_succ, List.set_cons_zero])
        repeat (go_big_quiet_step (first | (go_at_call 13; with_reducible exact (k1 _).mono (fun e w' ⟨he, hw⟩ => ⟨he, hc _ _ hw⟩)) | (go_at_call 14; exact (k2 _).mono (fun e w' ⟨he, hw⟩ => ⟨he, hc _ _ hw⟩)) | (go_at_call 13; with_reducible exact (k3 _).mono (fun e w' ⟨he, hw⟩ => ⟨he, hc _ _ hw⟩))))
        exact wpQuiet_nil rfl
      · simp only [List.drop_succ_cons, List.drop_zero]
        have yA := zA.below hb4 zA.lt
        have yB := zB.below hb4 zB.lt
        have hX4 := hX3.below hb4
        have b4 := b3.trans (hb4.mono b3.size)
        have oA4 := oA3.below hb4 (Nat.le_refl _)
        clear zA zB hX3 b3 oA3 oB hO3 hb4 hsxo hrxo hsxx
        have hXc := hX4.dcap
        have hXn := hX4.dnil
        by_cases hE0 : EE = 0
        · subst hE0
          obtain ⟨hsb, hpb⟩ := hbk rfl
          obtain ⟨hpy, hpl⟩ := back_facts x hkx hEE' yX
          have hBS2 : encB x = BS := hBS'
          rw [hBS2] at hpy hpl
          have hpar := parse_any BS sA cA w4 oA4.bytes (by omega) hby (fun h => (own_nil0 oA4 h).1) oA4.capped
          unfold Said at hpar
          rw [hpb] at hpar
          clear hbk hby hBS2
          generalize parM BS = PM at *
          go_upto_region 14 with (first | (go_at_call 15; (with_reducible refine Calls.mono hpar ?_); rintro e w5 ⟨lp5, lc5, dp5, dc5, rfl, oL, oD, hk5, hb5⟩) | (refine store_row0 28 (.tmp 10) (.tmp 68) (by rfl) (by rfl) (by rfl) w5.heap.size (mc PM lp5 lc5 dp5 dc5) (by rfl) (by rfl) 28 (mc (mK 0) none 0 none 0) ?hrow ?hi ?hold mc_one ?_; (case hrow => exact Row.new w5 28 _); (case hi => rw [mc_size hk5]; exact info28); (case hold => rw [mc_size hk5, mc_size rfl])))
          have hsz5 := hb5.size
          have xP := (Row.new w5 28 (mc (mK 0) none 0 none 0)).setRow (mc PM lp5 lc5 dp5 dc5)
          have bP : Below w5.heap.size w5 ((w5.alloc (.cells (mc (mK 0) none 0 none 0) 28)).setRow w5.heap.size (mc PM lp5 lc5 dp5 dc5)) := below_setRow ((Below.refl _ _).alloc (Nat.le_refl _) _) (Nat.le_refl _) _
          rw [litK]
          obtain ⟨gx, hgx⟩ : ∃ gx, w5.heap.size = gx := ⟨_, rfl⟩
          have b45 : Below w4.heap.size w4 ((w5.alloc (.cells (mc (mK 0) none 0 none 0) 28)).setRow w5.heap.size (mc PM lp5 lc5 dp5 dc5)) := hb5.trans (bP.mono hsz5)
          have fP : Fld ((w5.alloc (.cells (mc (mK 0) none 0 none 0) 28)).setRow w5.heap.size (mc PM lp5 lc5 dp5 dc5)) PM lp5 lc5 dp5 dc5 := ⟨hk5, oL.ints.below bP (Nat.le_refl _), oD.bytes.below bP, oL.capped, oD.capped, own_nil0 oD⟩
          generalize (w5.alloc (.cells (mc (mK 0) none 0 none 0) 28)).setRow w5.heap.size (mc PM lp5 lc5 dp5 dc5) = w6 at *
          rw [hgx] at xP
          try simp only [hgx]
          have xA := yA.below b45 yA.lt
          have xB := yB.below b45 yB.lt
          have hX6 := hX4.below b45
          have b6 := b4.trans (b45.mono b4.size)
          have hrs := rsame_any PM x lp5 dp5 p1 dp lc5 dc5 c1 dc w6 fP hX6 hpy yX (by omega)
          rw [hsb] at hrs
          clear yA yB hX4 b4 oA4 oL oD fP bP b45 hpar hb5 hsz5
          go_upto_region 16 with (first | (refine load_rowW ?hw 28 (.tmp 10) (by rfl) gx (by rfl) 28 (mc PM lp5 lc5 dp5 dc5) (0, 0) _ xP Try.underlying28 rfl ?hi ?_; (case hw => rfl); (case hi => rw [mc_size hk5]; exact info28)) | (refine load_rowW ?hw 28 (.tmp 2) (by rfl) ga (by rfl) 28 (mc x p1 c1 dp dc) (0, 0) _ xA Try.underlying28 rfl ?hi ?_; (case hw => rfl); (case hi => rw [mc_size hkx]; exact info28)) | (go_at_call 14; (with_reducible refine Calls.mono hrs ?_); rintro e w7 ⟨rfl, hb7⟩))
          have vA := xA.below hb7 xA.lt
          have vB := xB.below hb7 xB.lt
          have hX7 := hX6.below hb7
          have b7 := b6.trans (hb7.mono b6.size)
          clear xA xB xP hX6 b6 hrs hb7 hgx hsb hpb hpy hpl
          go_upto_region 7 with (first | (refine load_rowW ?hw 28 (.tmp 2) (by rfl) ga (by rfl) 28 (mc x p1 c1 dp dc) (0, 0) _ vA Try.underlying28 rfl ?hi ?_; (case hw => rfl); (case hi => rw [mc_size hkx]; exact info28)) | (go_at_call 16; (with_reducible refine Calls.mono (hgd _ hX7) ?_); rintro e w8 ⟨lp8, lc8, rfl, oG, hb8⟩; have rG := vA.below hb8 vA.lt) | (refine store_row0 28 (.tmp 2) (.tmp 79) (by rfl) (by rfl) (by rfl) ga (mc (goodM x) lp8 lc8 dp dc) (by rfl) (by rfl) 28 _ rG ?hi8 ?hold8 mc_one ?_; (case hi8 => rw [mc_size (m := goodM x) hkx]; exact info28); (case hold8 => rw [mc_size (m := goodM x) hkx, mc_size hkx])))
          have rB8 := (vB.below hb8 vB.lt).setRowOther (g := ga) (Ne.symm hnab) (mc (goodM x) lp8 lc8 dp dc)
          have rA8 := rG.setRow (mc (goodM x) lp8 lc8 dp dc)
          have b8 := below_setRow (g := ga) (b7.trans (hb8.mono b7.size)) hgaw (mc (goodM x) lp8 lc8 dp dc)
          have oG8 := oG.keepRow rG (by decide) (mc (goodM x) lp8 lc8 dp dc)
          change Code.wp _ _ _ _ (w8.setRow ga (mc (goodM x) lp8 lc8 dp dc))
          generalize w8.setRow ga (mc (goodM x) lp8 lc8 dp dc) = w9 at *
          have hcap := hXc
          have hge := good_encE x
          have hgl : (goodM x).list.length ≤ 100 := by show ((x.list.take 10).map _).length ≤ 100; simp; omega
          have hgdl : (goodM x).data.length ≤ 8000 := by show (x.data.take 6000).length ≤ 8000; simp; omega
          have hgb2 : Bytes w dp (goodM x).data := bX.take 6000
          have hgy : By (goodM x).data := fun y hy => yX y (List.mem_of_mem_take hy)
          have hgf : Fld w9 (goodM x) lp8 lc8 dp dc := ⟨hkx, oG8.ints, hgb2.below b8, oG8.capped, by show (x.data.take 6000).length ≤ dc; rw [List.length_take]; omega, fun h => ⟨(hXn h).1, by show (x.data.take 6000).length = 0; rw [List.length_take, (hXn h).2]; simp⟩⟩
          have hgk : By (goodM x).key := kX
          generalize goodM x = y at *
          clear hgd hcap
          go_wp2
          go_roundw
          case rel => exact ⟨k + 1, y, lp8, lc8, by go_num, by omega, .inr hge, rA8, rB8, hgf, hgl, hgdl, hgk, hgy, hgb2, b8⟩
          case measure => simp [intOf]; omega
        · have hEb : (EE == 0) = false := by simpa using hE0
          clear hbk hby hE0 oA4
          go_upto_region 7 with (first | (refine load_rowW ?hw 28 (.tmp 2) (by rfl) ga (by rfl) 28 (mc x p1 c1 dp dc) (0, 0) _ yA Try.underlying28 rfl ?hi ?_; (case hw => rfl); (case hi => rw [mc_size hkx]; exact info28)) | (go_at_call 16; (with_reducible refine Calls.mono (hgd _ hX4) ?_); rintro e w8 ⟨lp8, lc8, rfl, oG, hb8⟩; have rG := yA.below hb8 yA.lt) | (refine store_row0 28 (.tmp 2) (.tmp 79) (by rfl) (by rfl) (by rfl) ga (mc (goodM x) lp8 lc8 dp dc) (by rfl) (by rfl) 28 _ rG ?hi8 ?hold8 mc_one ?_; (case hi8 => rw [mc_size (m := goodM x) hkx]; exact info28); (case hold8 => rw [mc_size (m := goodM x) hkx, mc_size hkx])))
          have rB8 := (yB.below hb8 yB.lt).setRowOther (g := ga) (Ne.symm hnab) (mc (goodM x) lp8 lc8 dp dc)
          have rA8 := rG.setRow (mc (goodM x) lp8 lc8 dp dc)
          have b8 := below_setRow (g := ga) (b4.trans (hb8.mono b4.size)) hgaw (mc (goodM x) lp8 lc8 dp dc)
          have oG8 := oG.keepRow rG (by decide) (mc (goodM x) lp8 lc8 dp dc)
          change Code.wp _ _ _ _ (w8.setRow ga (mc (goodM x) lp8 lc8 dp dc))
          generalize w8.setRow ga (mc (goodM x) lp8 lc8 dp dc) = w9 at *
          have hcap := hXc
          have hge := good_encE x
          have hgl : (goodM x).list.length ≤ 100 := by show ((x.list.take 10).map _).length ≤ 100; simp; omega
          have hgdl : (goodM x).data.length ≤ 8000 := by show (x.data.take 6000).length ≤ 8000; simp; omega
          have hgb2 : Bytes w dp (goodM x).data := bX.take 6000
          have hgy : By (goodM x).data := fun y hy => yX y (List.mem_of_mem_take hy)
          have hgf : Fld w9 (goodM x) lp8 lc8 dp dc := ⟨hkx, oG8.ints, hgb2.below b8, oG8.capped, by show (x.data.take 6000).length ≤ dc; rw [List.length_take]; omega, fun h => ⟨(hXn h).1, by show (x.data.take 6000).length = 0; rw [List.length_take, (hXn h).2]; simp⟩⟩
          have hgk : By (goodM x).key := kX
          generalize goodM x = y at *
          clear hgd hcap
          go_wp2
          go_roundw
          case rel => exact ⟨k + 1, y, lp8, lc8, by go_num, by omega, .inr hge, rA8, rB8, hgf, hgl, hgdl, hgk, hgy, hgb2, b8⟩
          case measure => simp [intOf]; omega
    · obtain rfl : k = 2 := by omega
      have hE : encE x = 0 := hz.resolve_left (by decide)
      have hen := encode_any x p1 dp c1 dc wr hX (by omega) (by omega)
      rw [hE] at hen
      clear hz hE
      generalize encB x = BS at *
      go_wp2_with (first | (refine load_rowW ?hw 28 (.tmp 2) (by rfl) ga (by rfl) 28 (mc x p1 c1 dp dc) (0, 0) _ qA Try.underlying28 rfl ?hi ?_; (case hw => rfl); (case hi => rw [mc_size hkx]; exact info28)) | (go_at_call 11; (with_reducible refine Calls.mono hen ?_); rintro e w2 ⟨sA, cA, rfl, oA, hb2⟩))
      go_ret
      exact ⟨rfl, b1.trans (hb2.mono b1.size)⟩
end

section
open Go Go.RowKit
set_option maxRecDepth 20000 in
set_option maxHeartbeats 4000000 in
theorem writes_early (m o : M) (lp dp lq dq : Option Addr) (lc dc ld dd : Nat) (w : World) (hF : Fld w m lp lc dp dc) (hG : Fld w o lq ld dq dd) (hm1 : m.list.length ≤ 9223372036854775807) (hm2 : m.data.length ≤ 9223372036854775807) (ho1 : o.list.length ≤ 9223372036854775807) (ho2 : o.data.length ≤ 9223372036854775807)
    (h : ¬ ((m.data.length < 8000 ∧ m.list.length < 50) ∧ (o.data.length < 8000 ∧ o.list.length < 50))) :
    Calls Try.prog 3 #[.agg (mc m lp lc dp dc), .agg (mc o lq ld dq dd)] w fun e w' => e = .returned (.bool true) ∧ Below w.heap.size w w' := by
  have hb0 : Below w.heap.size w (World.alloc (World.alloc w (.cells (mc m lp lc dp dc) 28)) (.cells (mc o lq ld dq dd) 28)) := ((Below.refl _ _).alloc (Nat.le_refl _) _).alloc (by simp) _
  have rA : Row (World.alloc (World.alloc w (.cells (mc m lp lc dp dc) 28)) (.cells (mc o lq ld dq dd) 28)) w.heap.size 28 (mc m lp lc dp dc) := (Row.new _ _ _).alloc _
  have rB : Row (World.alloc (World.alloc w (.cells (mc m lp lc dp dc) 28)) (.cells (mc o lq ld dq dd) 28)) (w.heap.size + 1) 28 (mc o lq ld dq dd) := by
    have := Row.new (World.alloc w (.cells (mc m lp lc dp dc) 28)) 28 (mc o lq ld dq dd)
    simpa using this
  obtain ⟨ga, hga⟩ : ∃ ga, w.heap.size = ga := ⟨_, rfl⟩
  obtain ⟨gb, hgb⟩ : ∃ gb, ga + 1 = gb := ⟨_, rfl⟩
  have hkm := hF.key
  have hko := hG.key
  rw [hga] at rA
  rw [hga, hgb] at rB
  by_cases hm : m.data.length < 8000 ∧ m.list.length < 50
  · have ho : ¬ (o.data.length < 8000 ∧ o.list.length < 50) := fun ho => h ⟨hm, ho⟩
    have hfm := fun w1 h => few_any m lp dp lc dc w1 h hm1 hm2 true (by simp; omega)
    have hfo := fun w1 h => few_any o lq dq ld dd w1 h ho1 ho2 false (by
      by_cases h9 : o.data.length < 8000
      · simp [h9]; omega
      · simp [h9])
    clear h ho hm
    go_enter Try.func3, Try.ntmps3
    go_upto_region 1 with fail
    change Code.wp _ _ _ _ (World.alloc (World.alloc w (.cells (mc m lp lc dp dc) 28)) (.cells (mc o lq ld dq dd) 28))
    generalize (World.alloc (World.alloc w (.cells (mc m lp lc dp dc) 28)) (.cells (mc o lq ld dq dd) 28)) = w1 at *
    try simp only [hga, hgb]
    go_wp2_with (first | (go_at_call 9; (with_reducible refine Calls.mono (known_any _) ?_); rintro e w2 ⟨rfl, hb2⟩; have rA2 := rA.below hb2 rA.lt; have rB2 := rB.below hb2 rB.lt; have b2 := hb0.trans (hb2.mono hb0.size)) | (refine load_rowW ?hw 28 (.tmp 2) (by rfl) ga (by rfl) 28 (mc m lp lc dp dc) (0, 0) _ rA2 Try.underlying28 rfl ?hi ?_; (case hw => rfl); (case hi => rw [mc_size hkm]; exact info28)) | (go_at_call 10; (with_reducible refine Calls.mono (hfm _ (hF.below b2)) ?_); rintro e w3 ⟨rfl, hb3⟩; have rB3 := rB2.below hb3 rB2.lt; have b3 := b2.trans (hb3.mono b2.size)) | (refine load_rowW ?hw 28 (.tmp 3) (by rfl) gb (by rfl) 28 (mc o lq ld dq dd) (0, 0) _ rB3 Try.underlying28 rfl ?hi ?_; (case hw => rfl); (case hi => rw [mc_size hko]; exact info28)) | (go_at_call 10; (with_reducible refine Calls.mono (hfo _ (hG.below b3)) ?_); rintro e w4 ⟨rfl, hb4⟩))
    go_ret
    exact ⟨rfl, b3.trans (hb4.mono b3.size)⟩
  · have hfm := fun w1 h => few_any m lp dp lc dc w1 h hm1 hm2 false (by
      by_cases h9 : m.data.length < 8000
      · simp [h9]; omega
      · simp [h9])
    clear h hm
    go_enter Try.func3, Try.ntmps3
    go_upto_region 1 with fail
    change Code.wp _ _ _ _ (World.alloc (World.alloc w (.cells (mc m lp lc dp dc) 28)) (.cells (mc o lq ld dq dd) 28))
    generalize (World.alloc (World.alloc w (.cells (mc m lp lc dp dc) 28)) (.cells (mc o lq ld dq dd) 28)) = w1 at *
    try simp only [hga, hgb]
    go_wp2_with (first | (go_at_call 9; (with_reducible refine Calls.mono (known_any _) ?_); rintro e w2 ⟨rfl, hb2⟩; have rA2 := rA.below hb2 rA.lt; have b2 := hb0.trans (hb2.mono hb0.size)) | (refine load_rowW ?hw 28 (.tmp 2) (by rfl) ga (by rfl) 28 (mc m lp lc dp dc) (0, 0) _ rA2 Try.underlying28 rfl ?hi ?_; (case hw => rfl); (case hi => rw [mc_size hkm]; exact info28)) | (go_at_call 10; (with_reducible refine Calls.mono (hfm _ (hF.below b2)) ?_); rintro e w3 ⟨rfl, hb3⟩))
    go_ret
    exact ⟨rfl, b2.trans (hb3.mono b2.size)⟩
theorem writes_any (m o : M) (lp dp lq dq : Option Addr) (lc dc ld dd : Nat) (w : World) (hF : Fld w m lp lc dp dc) (hG : Fld w o lq ld dq dd) (hm1 : m.list.length ≤ 9223372036854775807) (hm2 : m.data.length ≤ 9223372036854775807) (ho1 : o.list.length ≤ 9223372036854775807) (ho2 : o.data.length ≤ 9223372036854775807) (kF : By m.key) (yF : By m.data) (yG : By o.data) :
    Calls Try.prog 3 #[.agg (mc m lp lc dp dc), .agg (mc o lq ld dq dd)] w fun e w' => e = .returned (.bool true) ∧ Below w.heap.size w w' := by
  by_cases h : (m.data.length < 8000 ∧ m.list.length < 50) ∧ (o.data.length < 8000 ∧ o.list.length < 50)
  · exact writes_main m o lp dp lq dq lc dc ld dd w hF hG kF yF yG h.1.2 h.1.1 h.2.2 h.2.1
  · exact writes_early m o lp dp lq dq lc dc ld dd w hF hG hm1 hm2 ho1 ho2 h
end

end Go.Proofs.Ytcdmjjlbeifgjaa
