/- The way up a tree in lms. No old memory turns. -/
import Derived.Test.YtoebnkepeledmaaDoorLmsMx
namespace Go.Proofs.YtoebnkepeledmaaDoor
open Go Go.RowKit

/-- One step up: the hash of the node above. -/
def upL (S : List Int → List Int) (nm : List Int) (r : Nat) (t x : List Int) : List Int :=
  if r % 2 = 0 then S (nm ++ n4 ((r / 2 : Nat) : Int) ++ [131, 131] ++ t ++ x) else S (nm ++ n4 ((r / 2 : Nat) : Int) ++ [131, 131] ++ x ++ t)
/-- The hash that is come to behind i steps up. -/
def climbL (S : List Int → List Int) (nm : List Int) (r : Nat) (once path : List Int) : Nat → List Int
  | 0 => S (nm ++ n4 (r : Int) ++ [130, 130] ++ once)
  | i + 1 => upL S nm (r / 2 ^ i) (climbL S nm r once path i) (cutL path (32 * i))
theorem upL_len {S : List Int → List Int} (hS : ∀ l, (S l).length = 32) (nm : List Int) (r : Nat) (t x : List Int) : (upL S nm r t x).length = 32 := by unfold upL; split <;> exact hS _
theorem climbL_len {S : List Int → List Int} (hS : ∀ l, (S l).length = 32) (nm : List Int) (r : Nat) (once path : List Int) : ∀ i, (climbL S nm r once path i).length = 32
  | 0 => hS _
  | _ + 1 => upL_len hS _ _ _ _
theorem range_name {w : World} {g : Nat} {t : TypeId} {nm top : List Int} {h : Int} (hr : Row w g t (kc nm h top)) : w.rangeAt g 0 (v8 nm).toList := fun j v hv => by
  have hj : j < nm.length := by
    have := (List.getElem?_eq_some_iff.1 hv).1
    simpa [v8] using this
  obtain ⟨b, o, e, hc⟩ := kc_name hr (by omega)
  injection e with e
  injection e with e1 e2
  subst e1 e2
  rw [hc j hj, ← hv]
  simp [v8, gi, hj]

set_option maxRecDepth 20000 in
set_option maxHeartbeats 1000000 in
theorem climb_any (S : List Int → List Int) (hS : Hash S) (nm top once path : List Int) (h q : Nat) (sp : Option Addr) (len cap : Nat) (w0 : World) (hL : Laid w0) (hn : nm.length = 16) (ho : once.length = 32) (h1 : 1 ≤ h) (h5 : h ≤ 5) (hq : q < 2 ^ h) (hl : path.length = len) (hcap : len ≤ cap) (hpl : 32 * h ≤ len) (hby : Bytes w0 sp path) :
    Calls Tryd.prog 54 #[.agg (kc nm (h : Int) top), .int .i64 (q : Int), .agg (v8 once), .slice sp len cap] w0 fun e w' => e = .returned (.agg (v8 (climbL S nm (2 ^ h + q) once path h))) ∧ Below w0.heap.size w0 w' := by
  have hlv := fun wx => leaves_any h wx h1 h5
  have hn32 : 2 ^ h ≤ 32 := by
    rcases (by omega : h = 1 ∨ h = 2 ∨ h = 3 ∨ h = 4 ∨ h = 5) with rfl | rfl | rfl | rfl | rfl <;> decide
  generalize 2 ^ h = n at *
  obtain ⟨R, hR⟩ : ∃ R, R = n + q := ⟨_, rfl⟩
  have hRI : (n : Int) + (q : Int) = (R : Int) := by omega
  have hR64 : R < 64 := by omega
  rw [← hR]
  clear hR
  have hin16 : (Tryd.prog.info? 22).map (·.size) = some (v8 nm).toList.length := by rw [Array.length_toList]; exact name_info hn
  have hlf : ∀ wx, Laid wx → Calls Tryd.prog 65 #[.agg (v8 nm), .int .i64 (R : Int), .agg (v8 once)] wx fun e w' => e = .returned (.agg (v8 (climbL S nm R once path 0))) ∧ Below wx.heap.size wx w' := fun wx hl => lleaf_any S hS nm once R wx hl hn ho
  have hTl : ∀ i, (climbL S nm R once path i).length = 32 := climbL_len (fun l => hS.len l) nm R once path
  have hha : ∀ (i : Nat) wx, i < h → Bytes wx sp path → Calls Tryd.prog 68 #[.slice sp len cap, .int .i64 ((i : Int) * 32)] wx fun e w' => e = .returned (.agg (v8 (cutL path (32 * i)))) ∧ Below wx.heap.size wx w' := fun i wx hi hb => by
    have := lhashAt_any path sp len cap (32 * i) wx hl hcap (by omega) hb
    rwa [show ((32 * i : Nat) : Int) = (i : Int) * 32 by omega] at this
  have hXl : ∀ i, i < h → (cutL path (32 * i)).length = 32 := fun i hi => by unfold cutL; simp; omega
  have hab : ∀ (r : Nat) (a b : List Int) wx, Laid wx → a.length = 32 → b.length = 32 → Calls Tryd.prog 66 #[.agg (v8 nm), .int .i64 ((r : Nat) : Int), .agg (v8 a), .agg (v8 b)] wx fun e w' => e = .returned (.agg (v8 (S (nm ++ n4 ((r : Nat) : Int) ++ [131, 131] ++ a ++ b)))) ∧ Below wx.heap.size wx w' := fun r a b wx hl ha hb => above_any S hS nm a b r wx hl hn ha hb
  have hSl : ∀ l, (S l).length = 32 := fun l => hS.len l
  have hst : ∀ i, climbL S nm R once path (i + 1) = upL S nm (R / 2 ^ i) (climbL S nm R once path i) (cutL path (32 * i)) := fun i => rfl
  generalize climbL S nm R once path = T at *
  generalize hX : (fun i => cutL path (32 * i)) = X at *
  have hX' : ∀ i, cutL path (32 * i) = X i := fun i => congrFun hX i
  simp only [hX'] at hha hXl hst
  clear hX hX'
  have z32 := zv32
  go_enter Tryd.func54, Tryd.ntmps54
  go_upto_region 1 with fail
  have r0 : Row (World.alloc (World.alloc (World.alloc w0 (.cells (kc nm (h : Int) top) 80)) (.cells (v8 once) 24)) (.cells (v8 (zer 32)) 24)) w0.heap.size 80 (kc nm (h : Int) top) := ((Row.new _ _ _).alloc _).alloc _
  have r1 : Row (World.alloc (World.alloc (World.alloc w0 (.cells (kc nm (h : Int) top) 80)) (.cells (v8 once) 24)) (.cells (v8 (zer 32)) 24)) (w0.heap.size + 1) 24 (v8 once) := (Row.newAt _ _ _ _ (by simp)).alloc _
  have r2 : Row (World.alloc (World.alloc (World.alloc w0 (.cells (kc nm (h : Int) top) 80)) (.cells (v8 once) 24)) (.cells (v8 (zer 32)) 24)) (w0.heap.size + 2) 24 (v8 (zer 32)) := Row.newAt _ _ _ _ (by simp)
  have b1 : Below w0.heap.size w0 (World.alloc (World.alloc (World.alloc w0 (.cells (kc nm (h : Int) top) 80)) (.cells (v8 once) 24)) (.cells (v8 (zer 32)) 24)) := (((Below.refl _ _).alloc (Nat.le_refl _) _).alloc (by simp) _).alloc (by simp; omega) _
  change Code.wp _ _ _ _ ((World.alloc (World.alloc (World.alloc w0 (.cells (kc nm (h : Int) top) 80)) (.cells (v8 once) 24)) (.cells (v8 (zer 32)) 24)))
  generalize (World.alloc (World.alloc (World.alloc w0 (.cells (kc nm (h : Int) top) 80)) (.cells (v8 once) 24)) (.cells (v8 (zer 32)) 24)) = w1 at r0 r1 r2 b1 ⊢
  have k0 := kc_height r0 hn
  go_upto_region 3 with (first | (go_at_call 49; (with_reducible refine Calls.mono (hlv _) ?_); rintro e w2 ⟨rfl, hw⟩; obtain rfl := hw.symm; clear hw) | (refine wpList_load_mid ?hw 22 (.tmp 18) (by rfl) w0.heap.size 0 (by rfl) (v8 nm).toList _ (range_name r0) Tryd.underlying22 rfl ?hi ?_; (case hw => rfl); (case hi => exact hin16)) | (refine wpList_load_row (by rfl) 24 (.tmp 6) (by rfl) (w0.heap.size + 1) (by rfl) 24 (v8 once) (0, 0) _ r1 Tryd.underlying24 rfl (id_info ho) ?_) | (go_at_call 65; (with_reducible refine Calls.mono (hlf _ (hL.below b1)) ?_); rintro e w3 ⟨rfl, hb3⟩) | (refine store_row0 24 (.tmp 10) (.tmp 22) (by rfl) (by rfl) (by rfl) w3.heap.size (v8 (T 0)) (by rfl) (by rfl) 24 (v8 (zer 32)) (Row.new w3 24 _) (id_info (hTl 0)) (by rw [v8_size, v8_size, hTl, zer_len]) (v8_one _) ?_))
  have hs3 := hb3.size
  have hr2l := r2.lt
  have v0 := ((r0.below hb3 r0.lt).alloc (.cells (v8 (zer 32)) 24)).setRowOther (g := w3.heap.size) (by omega) (v8 (T 0))
  have v2 := ((r2.below hb3 r2.lt).alloc (.cells (v8 (zer 32)) 24)).setRowOther (g := w3.heap.size) (by omega) (v8 (T 0))
  have vt := (Row.new w3 24 (v8 (zer 32))).setRow (v8 (T 0))
  have vb : Below w0.heap.size w0 ((w3.alloc (.cells (v8 (zer 32)) 24)).setRow w3.heap.size (v8 (T 0))) := below_setRow ((b1.trans (hb3.mono b1.size)).alloc (by have := b1.size; omega) _) (by have := b1.size; omega) _
  obtain ⟨gt, hgt⟩ : ∃ gt, gt = w3.heap.size := ⟨_, rfl⟩
  have hgt2 : w0.heap.size + 2 < gt := by omega
  change Code.wp _ _ _ _ ((w3.alloc (.cells (v8 (zer 32)) 24)).setRow w3.heap.size (v8 (T 0)))
  rw [← hgt] at v0 v2 vt vb ⊢
  generalize (w3.alloc (.cells (v8 (zer 32)) 24)).setRow gt (v8 (T 0)) = w4 at v0 v2 vt vb ⊢
  clear r0 r1 r2 b1 hb3 hgt hs3 hr2l hlf hlv hRI k0
  have k4 := kc_height v0 hn
  go_wp2
  clear k4
  go_loopw [9, 25] (fun v c wr => ∃ i r : Nat, r = R / 2 ^ i ∧ v = .int .i64 (r : Int) ∧ c = .int .i64 (i : Int) ∧ i ≤ h ∧ Row wr w0.heap.size 80 (kc nm (h : Int) top) ∧ Row wr (w0.heap.size + 2) 24 (v8 (zer 32)) ∧ Row wr gt 24 (v8 (T i)) ∧ Below w0.heap.size w0 wr) (fun _ c _ => h - (intOf c).toNat)
  case atStart => exact ⟨0, R, by simp, rfl, rfl, by omega, v0, v2, vt, vb⟩
  case round =>
    clear v0 v2 vt vb
    obtain ⟨i, r, hr, rfl, rfl, hi, z0, z2, zt, zb⟩ := hrel
    by_cases hlt : i < h
    · have hlt' : (i : Int) < (h : Int) := by omega
      have hrl : r < 64 := by rw [hr]; exact Nat.lt_of_le_of_lt (Nat.div_le_self _ _) hR64
      have hnx : R / 2 ^ (i + 1) = r / 2 := by rw [hr, Nat.div_div_eq_div_mul, Nat.pow_succ]
      have hsti := hst i
      clear hst
      rw [← hr] at hsti
      clear hr
      have hXi := hXl i hlt
      have hTi := hTl i
      have hTn := hTl (i + 1)
      have hhi := fun wx hb => hha i wx hlt hb
      generalize X i = x at *
      have hzt := zt.lt
      have hby1 := hby.below zb
      go_upto_region 7 with (first | (go_at_call 68; (with_reducible refine Calls.mono (hhi _ hby1) ?_); rintro e w5 ⟨rfl, hb5⟩) | (refine store_row0 24 (.tmp 12) (.tmp 31) (by rfl) (by rfl) (by rfl) w5.heap.size (v8 x) (by rfl) (by rfl) 24 (v8 (zer 32)) (Row.new w5 24 _) (id_info hXi) (by rw [v8_size, v8_size, hXi, zer_len]) (v8_one _) ?_))
      have hs5 := hb5.size
      have u0 := ((z0.below hb5 z0.lt).alloc (.cells (v8 (zer 32)) 24)).setRowOther (g := w5.heap.size) (by omega) (v8 x)
      have u2 := ((z2.below hb5 z2.lt).alloc (.cells (v8 (zer 32)) 24)).setRowOther (g := w5.heap.size) (by omega) (v8 x)
      have ut := ((zt.below hb5 zt.lt).alloc (.cells (v8 (zer 32)) 24)).setRowOther (g := w5.heap.size) (by omega) (v8 x)
      have ux := (Row.new w5 24 (v8 (zer 32))).setRow (v8 x)
      have ub : Below w0.heap.size w0 ((w5.alloc (.cells (v8 (zer 32)) 24)).setRow w5.heap.size (v8 x)) := below_setRow ((zb.trans (hb5.mono zb.size)).alloc (by have := zb.size; omega) _) (by have := zb.size; omega) _
      obtain ⟨gx, hgx⟩ : ∃ gx, gx = w5.heap.size := ⟨_, rfl⟩
      have hgx2 : gt < gx := by omega
      change Code.wp _ _ _ _ ((w5.alloc (.cells (v8 (zer 32)) 24)).setRow w5.heap.size (v8 x))
      rw [← hgx] at u0 u2 ut ux ub ⊢
      generalize (w5.alloc (.cells (v8 (zer 32)) 24)).setRow gx (v8 x) = w6 at u0 u2 ut ux ub ⊢
      clear z0 z2 zt zb hb5 hgx hs5 hby1 hzt hhi
      obtain ⟨r2, hr2⟩ : ∃ r2, r / 2 = r2 := ⟨_, rfl⟩
      have q1 : (r : Int).tdiv 2 = (r2 : Int) := by rw [Int.tdiv_eq_ediv_of_nonneg (by omega)]; omega
      have q2 : (r : Int) / 2 = (r2 : Int) := by omega
      rw [hr2] at hnx
      by_cases hev : r % 2 = 0
      · have e1 : (r : Int).tmod 2 = 0 := by rw [Int.tmod_eq_emod_of_nonneg (by omega)]; omega
        have hA : ∀ wx, Laid wx → Calls Tryd.prog 66 #[.agg (v8 nm), .int .i64 (r2 : Int), .agg (v8 (T i)), .agg (v8 x)] wx fun e w' => e = .returned (.agg (v8 (T (i + 1)))) ∧ Below wx.heap.size wx w' := fun wx hl => by
          rw [hsti, upL, if_pos hev, hr2]; exact hab r2 _ _ wx hl hTi hXi
        clear hsti hr2 hev
        go_wp2_with (first | (refine wpList_load_mid ?hw 22 (.tmp 35) (by rfl) w0.heap.size 0 (by rfl) (v8 nm).toList _ (range_name u0) Tryd.underlying22 rfl ?hi ?_; (case hw => rfl); (case hi => exact hin16)) | (refine wpList_load_row (by rfl) 24 (.tmp 10) (by rfl) gt (by rfl) 24 (v8 (T i)) (0, 0) _ ut Tryd.underlying24 rfl (id_info hTi) ?_) | (refine wpList_load_row (by rfl) 24 (.tmp 12) (by rfl) gx (by rfl) 24 (v8 x) (0, 0) _ ux Tryd.underlying24 rfl (id_info hXi) ?_) | (go_at_call 66; (with_reducible refine Calls.mono (hA _ (hL.below ub)) ?_); rintro e w7 ⟨rfl, hb7⟩; have y0 := u0.below hb7 u0.lt; have y2 := u2.below hb7 u2.lt; have yt := ut.below hb7 ut.lt; have yb := ub.trans (hb7.mono ub.size)) | (refine store_row0 24 (.tmp 10) (.tmp 41) (by rfl) (by rfl) (by rfl) gt (v8 (T (i + 1))) (by rfl) (by rfl) 24 _ yt (id_info hTn) (by rw [v8_size, v8_size, hTn, hTi]) (v8_one _) ?_))
        go_roundw
        case rel => exact ⟨i + 1, r2, hnx.symm, rfl, by go_num, by omega, y0.setRowOther (by omega) _, y2.setRowOther (by omega) _, yt.setRow _, below_setRow yb (by omega) _⟩
        case measure => simp [intOf]; omega
      · have e1 : (r : Int).tmod 2 = 1 := by rw [Int.tmod_eq_emod_of_nonneg (by omega)]; omega
        have hA : ∀ wx, Laid wx → Calls Tryd.prog 66 #[.agg (v8 nm), .int .i64 (r2 : Int), .agg (v8 x), .agg (v8 (T i))] wx fun e w' => e = .returned (.agg (v8 (T (i + 1)))) ∧ Below wx.heap.size wx w' := fun wx hl => by
          rw [hsti, upL, if_neg hev, hr2]; exact hab r2 _ _ wx hl hXi hTi
        clear hsti hr2 hev
        go_wp2_with (first | (refine wpList_load_mid ?hw 22 (.tmp 42) (by rfl) w0.heap.size 0 (by rfl) (v8 nm).toList _ (range_name u0) Tryd.underlying22 rfl ?hi ?_; (case hw => rfl); (case hi => exact hin16)) | (refine wpList_load_row (by rfl) 24 (.tmp 10) (by rfl) gt (by rfl) 24 (v8 (T i)) (0, 0) _ ut Tryd.underlying24 rfl (id_info hTi) ?_) | (refine wpList_load_row (by rfl) 24 (.tmp 12) (by rfl) gx (by rfl) 24 (v8 x) (0, 0) _ ux Tryd.underlying24 rfl (id_info hXi) ?_) | (go_at_call 66; (with_reducible refine Calls.mono (hA _ (hL.below ub)) ?_); rintro e w7 ⟨rfl, hb7⟩; have y0 := u0.below hb7 u0.lt; have y2 := u2.below hb7 u2.lt; have yt := ut.below hb7 ut.lt; have yb := ub.trans (hb7.mono ub.size)) | (refine store_row0 24 (.tmp 10) (.tmp 48) (by rfl) (by rfl) (by rfl) gt (v8 (T (i + 1))) (by rfl) (by rfl) 24 _ yt (id_info hTn) (by rw [v8_size, v8_size, hTn, hTi]) (v8_one _) ?_))
        go_roundw
        case rel => exact ⟨i + 1, r2, hnx.symm, rfl, by go_num, by omega, y0.setRowOther (by omega) _, y2.setRowOther (by omega) _, yt.setRow _, below_setRow yb (by omega) _⟩
        case measure => simp [intOf]; omega
    · obtain rfl : i = h := by omega
      go_wp2_with (first | (refine wpList_load_row (by rfl) 24 (.tmp 10) (by rfl) gt (by rfl) 24 (v8 (T i)) (0, 0) _ zt Tryd.underlying24 rfl (id_info (hTl i)) ?_) | (refine store_row0 24 (.tmp 8) (.tmp 52) (by rfl) (by rfl) (by rfl) (w0.heap.size + 2) (v8 (T i)) (by rfl) (by rfl) 24 _ z2 (id_info (hTl i)) (by rw [v8_size, v8_size, hTl, zer_len]) (v8_one _) ?_))
      exact bodyPost_ret (results_cell_row Tryd.results54 _ _ (w0.heap.size + 2) 24 (v8 (T i)) (0, 0) _ rfl (z2.setRow _) Tryd.underlying24 rfl (id_info (hTl i))) rfl ⟨rfl, below_setRow zb (by omega) _⟩
end Go.Proofs.YtoebnkepeledmaaDoor
