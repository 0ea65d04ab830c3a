/- A directory read from bytes: what ParseDir answers. No old memory turns. -/
import Derived.Test.YtgcffdnbihfghaaApp54
namespace Go.Proofs.Ytgcffdnbihfghaa
open Go Go.RowKit
/-- The entries that bytes say, where they end with one. -/
def pD (bs : List Int) : Option (List Ent) :=
  if h : bs = [] then some []
  else if bs.length < (gi bs 0).toNat + 33 then none
  else (pD (bs.drop ((gi bs 0).toNat + 33))).map (rdE (bs.take ((gi bs 0).toNat + 33)) (gi bs 0).toNat :: ·)
termination_by bs.length
decreasing_by
  have := List.length_pos_iff.2 h
  simp; omega
theorem pD_nil : pD [] = some [] := by unfold pD; simp
theorem pD_cut {X : List Int} {k : Nat} (h0 : 0 < X.length) (hk : gi X 0 = k) (h : X.length < k + 33) : pD X = none := by
  have hne : X ≠ [] := fun h => by rw [h] at h0; simp at h0
  unfold pD
  rw [dif_neg hne, hk, Int.toNat_natCast, if_pos h]
theorem pD_step {X : List Int} {k : Nat} (h0 : 0 < X.length) (hk : gi X 0 = k) (h : ¬ X.length < k + 33) : pD X = (pD (X.drop (k + 33))).map (rdE (X.take (k + 33)) k :: ·) := by
  have hne : X ≠ [] := fun h => by rw [h] at h0; simp at h0
  rw [pD, dif_neg hne, hk, Int.toNat_natCast, if_neg h]
theorem strOf_size (l : List Int) : (strOfNums l).size = l.length := by
  show ((l.map _).toArray).size = _
  simp
theorem rdE_ok {X : List Int} {k : Nat} (hy : By X) (hk : k < 256) (hl : k + 33 ≤ X.length) : EntOk (rdE (X.take (k + 33)) k) := by
  refine ⟨by simp [rdE]; omega, fun x hx => hy x (List.mem_of_mem_take (List.mem_of_mem_drop hx)), ?_⟩
  simp only [rdE, strOf_size]; simp; omega
def dErr (bs : List Int) : Int := match pD bs with
  | none => 8
  | some E => chkE E
def dOut (bs : List Int) : List Ent := match pD bs with
  | none => []
  | some E => if chkE E = 0 then E else []
/-- What a reader of directories answers. -/
def ReadsD (E : List Ent) (r : Int) (w : World) (e : Ending) (w' : World) : Prop :=
  ∃ sp cap, e = .returned (.tuple #[.slice sp E.length cap, .int .i64 r]) ∧ Ents w' sp E ∧ EntsOk E ∧ Below w.heap.size w w'
def lenV : Value → Nat
  | .slice _ m _ => m
  | _ => 0
set_option maxRecDepth 20000 in
set_option maxHeartbeats 1000000 in
theorem pdir_any (bs : List Int) (p : Option Addr) (m cap : Nat) (w : World) (hl : bs.length = m) (hm : m ≤ 1000000) (hc : m ≤ cap) (hby : Bytes w p bs) (hy : By bs) :
    Calls Try.prog 24 #[.slice p m cap] w (ReadsD (dOut bs) (dErr bs) w) := by
  obtain ⟨D, hD⟩ : ∃ D, dOut bs = D := ⟨_, rfl⟩
  obtain ⟨r, hr⟩ : ∃ r, dErr bs = r := ⟨_, rfl⟩
  rw [hD, hr]
  go_enter Try.func24, Try.ntmps24
  go_wp2
  go_loopw [0, 4] (fun bv lv wr => ∃ (p : Option Addr) (m c : Nat) (X : List Int) (n : Nat) (E0 : List Ent) (sp : Option Addr) (cp : Nat), bv = .slice p m c ∧ lv = .slice sp n cp ∧ X.length = m ∧ m ≤ c ∧ Bytes w p X ∧ By X ∧ OwnE wr w.heap.size (.slice sp n cp) n E0 ∧ EntsOk E0 ∧ 33 * n + m ≤ 1000000 ∧ (pD X).map (E0 ++ ·) = pD bs ∧ Below w.heap.size w wr) (fun bv _ _ => lenV bv)
  case atStart => exact ⟨p, m, cap, bs, 0, [], none, 0, rfl, rfl, hl, hc, hby, hy, ownE_none _ _, fun x hx => (by simp at hx), by omega, by simp, Below.refl _ _⟩
  case round =>
    obtain ⟨p, m, c, X, n, E0, sp, cp, rfl, rfl, hl, hc, hX, hy, ow, hok, hsum, hpd, b1⟩ := hrel
    clear hby
    by_cases h0 : 0 < m
    · obtain ⟨b, o, rfl, _⟩ := hX (by omega)
      have hXr := hX.below b1
      obtain ⟨b', o', hbo, hcl⟩ := hXr (by omega)
      cases hbo
      have c0 : wr.cell? ⟨b, o, none⟩ = some (.int .u8 (gi X 0)) := hcl 0 (by omega)
      have q0 := gi_by hy 0 (by omega)
      obtain ⟨k, hk⟩ : ∃ k : Nat, gi X 0 = k := ⟨(gi X 0).toNat, by omega⟩
      have h0i : (0 : Int) < m := by omega
      by_cases hs : m < k + 33
      · have hcut := pD_cut (by omega) hk (by omega)
        rw [hcut, Option.map_none] at hpd
        have hr8 : r = 8 := by rw [← hr, dErr, ← hpd]
        have hDn : D = [] := by rw [← hD, dOut, ← hpd]
        subst hr8 hDn
        rw [hk] at c0 q0
        have hsi : (m : Int) < (k : Int) + 33 := by omega
        have hsz := fun wx => size_any (k : Int) wx (by omega) (by omega)
        clear hD hr hl hX hXr hpd hsum ow hok hcl hcut hs hc
        go_wp2_with (go_at_call 42; (with_reducible refine Calls.mono (hsz _) ?_); rintro e w2 ⟨rfl, hw⟩; obtain rfl := hw.symm; clear hw)
        go_ret2
        exact ⟨none, 0, rfl, fun h => by simp at h, fun x hx => (by simp at hx), b1⟩
      · have hst := pD_step (by omega) hk (by omega)
        have hE := entry_any (X.take (k + 33)) k b o c wr (hXr.take (k + 33)) (by simp; omega) (by omega) (by omega)
        have hRk := rdE_ok hy (k := k) (by omega) (by omega)
        generalize hR : rdE (X.take (k + 33)) k = R at *
        rw [hk] at c0 q0
        have hsi : (k : Int) + 33 ≤ (m : Int) := by omega
        have hci : (m : Int) ≤ (c : Int) := by omega
        have hsz := fun wx => size_any (k : Int) wx (by omega) (by omega)
        have hb := b1.size
        have hn5 : n ≤ 100000 := by omega
        have hRn := hRk.1
        clear hcl
        go_upto_region 7 with (first | (go_at_call 42; (with_reducible refine Calls.mono (hsz _) ?_); rintro e w2 ⟨rfl, hw⟩; obtain rfl := hw.symm; clear hw) | (go_at_call 44; (with_reducible refine Calls.mono hE ?_); rintro e w2 ⟨rfl, hb2⟩) | (refine bs54 (.tmp 23) (by rfl) (by rfl) R (by rfl) hRn ?_) | (at_builtin; (refine append54 (.tmp 19) (.tmp 24) (by rfl) (by rfl) w.heap.size (.slice sp n cp) n E0 (by rfl) ?ho w2.heap.size R (by rfl) hRn (Row.new _ _ _) hn5 ?hB ?_; (case ho => exact (ow.below hb2 (Nat.le_refl _)).below ((Below.refl w2.heap.size w2).alloc (Nat.le_refl _) _) (Nat.le_refl _)); (case hB => exact Nat.le_trans hb (Nat.le_trans hb2.size ((Below.refl w2.heap.size w2).alloc (Nat.le_refl _) (.cells (en R) 54)).size)); intro sp2 cp2 w3 ow3 b3)))
        have b4 : Below w.heap.size w w3 := ((b1.trans (hb2.mono hb)).alloc (by have := hb2.size; omega) _).trans b3
        have hE1 : EntsOk (E0 ++ [R]) := fun x hx => by
          rcases List.mem_append.1 hx with h | h
          · exact hok x h
          · obtain rfl : x = R := by simpa using h
            exact hRk
        have hpd1 : (pD (X.drop (k + 33))).map ((E0 ++ [R]) ++ ·) = pD bs := by
          rw [← hpd, hst]
          cases pD (X.drop (k + 33)) <;> simp
        have hY : Bytes w (some ⟨b, o + (k + 33), none⟩) (X.drop (k + 33)) := hX.drop (k + 33)
        have hyY : By (X.drop (k + 33)) := fun x hx => hy x (List.mem_of_mem_drop hx)
        have hlY : (X.drop (k + 33)).length = m - (k + 33) := by simp; omega
        clear hE hR hst hpd hX hXr hy ow hok hb2 b3 b1 hRk hD hr
        by_cases hce : c = k + 33
        · have hcei : (c : Int) = (k : Int) + 33 := by omega
          go_wp2
          go_roundw
          case rel => exact ⟨_, _, _, X.drop (k + 33), n + 1, E0 ++ [R], sp2, cp2, rfl, rfl, hlY, by omega, fun h => by rw [hlY] at h; omega, hyY, ow3, hE1, by omega, hpd1, b4⟩
          case measure => simp [lenV]; omega
        · have hcei : (k : Int) + 33 < (c : Int) := by omega
          go_wp2
          go_roundw
          case rel => exact ⟨_, _, _, X.drop (k + 33), n + 1, E0 ++ [R], sp2, cp2, rfl, rfl, hlY, by omega, hY, hyY, ow3, hE1, by omega, hpd1, b4⟩
          case measure => simp [lenV]; omega
    · obtain rfl : m = 0 := by omega
      obtain rfl : X = [] := List.eq_nil_of_length_eq_zero hl
      rw [pD_nil] at hpd
      simp only [Option.map_some, List.append_nil] at hpd
      have hn : E0.length = n := by
        obtain ⟨h1, _⟩ := ow
        rw [flatE_len hok] at h1; omega
      have hr1 : r = chkE E0 := by rw [← hr, dErr, ← hpd]
      have hD1 : D = if chkE E0 = 0 then E0 else [] := by rw [← hD, dOut, ← hpd]
      have hck := entries_check E0 n sp cp wr hn (ow.ents hok) hok (by omega)
      have hEn := ow.ents hok
      rw [← hr1] at hck hD1
      clear hX hD hr hpd ow hsum hr1
      by_cases hz : r = 0
      · rw [if_pos hz] at hD1
        subst hD1 hz
        go_wp2_with (go_at_call 41; (with_reducible refine Calls.mono hck ?_); rintro e w2 ⟨rfl, hb2⟩)
        go_ret2
        exact ⟨sp, cp, by rw [hn]; rfl, hEn.below hb2 (Nat.le_refl _), hok, b1.trans (hb2.mono b1.size)⟩
      · rw [if_neg hz] at hD1
        subst hD1
        have hzb : (r == 0) = false := by simp [hz]
        go_wp2_with (go_at_call 41; (with_reducible refine Calls.mono hck ?_); rintro e w2 ⟨rfl, hb2⟩)
        go_ret2
        exact ⟨none, 0, rfl, fun h => by simp at h, fun x hx => (by simp at hx), b1.trans (hb2.mono b1.size)⟩
end Go.Proofs.Ytgcffdnbihfghaa
