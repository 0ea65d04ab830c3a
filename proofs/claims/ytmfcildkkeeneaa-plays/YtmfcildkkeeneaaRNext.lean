/- The reference's ledger: Next. -/
import Derived.Test.YtmfcildkkeeneaaROpen
import Derived.Test.YtmfcildkkeeneaaTw
import Derived.Outline
namespace Go.Proofs.Ytmfcildkkeeneaa
open Go Go.RowKit

def rwE (r : D) (b : List Int) : Int := if rErr r b = 0 then (if (rApp r b).dead then 17 else if rOk (rApp r b) then 0 else 17) else rErr r b
def rwD (r : D) (b : List Int) : D := if rErr r b = 0 then rSync (rApp r b) else rApp r b
theorem sim_w {d r : D} (h : Sim d r) (b : List Int) : rwE r b = wE d b ∧ Sim (wD d b) (rwD r b) := by
  obtain ⟨h1, h2⟩ := sim_app h b
  obtain ⟨h3, h4⟩ := sim_sync h2
  unfold rwE rwD wE wD
  rw [h1, h3]
  refine ⟨rfl, ?_⟩
  split
  · exact h4
  · exact h2
/-- '^n' of a number. -/
theorem not_i64 {n : Int} (h : 0 ≤ n ∧ n < 4294967296) : bits .xor .i64 (-1) n = -n - 1 := by
  obtain ⟨m, rfl⟩ : ∃ m : Nat, n = m := ⟨n.toNat, by omega⟩
  show IntKind.i64.wrap ((BitVec.ofInt 64 (-1) ^^^ BitVec.ofInt 64 (m : Int)).toNat : Int) = _
  have e1 : BitVec.ofInt 64 (-1) = BitVec.allOnes 64 := by decide
  rw [e1, BitVec.allOnes_xor, BitVec.toNat_not, BitVec.ofInt_natCast, BitVec.toNat_ofNat, Nat.mod_eq_of_lt (by omega), IntKind.wrap_i64]
  omega
def hiL (n : Int) : List Int := [n / 16777216 % 256, n / 65536 % 256, n / 256 % 256, n % 256]
theorem rec_hi (n : Int) : hiL n ++ hiL (-n - 1) = recL n := by
  have e1 : (-n - 1) / 16777216 % 256 = 255 - n / 16777216 % 256 := by omega
  have e2 : (-n - 1) / 65536 % 256 = 255 - n / 65536 % 256 := by omega
  have e3 : (-n - 1) / 256 % 256 = 255 - n / 256 % 256 := by omega
  have e4 : (-n - 1) % 256 = 255 - n % 256 := by omega
  unfold hiL
  rw [e1, e2, e3, e4]; rfl
def hiA (n : Int) : List Int := [n / 16777216, n / 65536 % 256, n / 256 % 256, n % 256]
theorem hiA_eq {n : Int} (h : 0 ≤ n ∧ n < 4294967296) : hiA n = hiL n := by
  unfold hiA hiL; rw [show n / 16777216 % 256 = n / 16777216 by omega]
theorem own8_ge {w : World} {B n cap : Nat} {a : Addr} {l : List Int} (h : Own8 w B 5 (.slice (some a) n cap) l) : B ≤ a.block := by
  rcases h.2 with ⟨h1, _⟩ | ⟨g, cap', cur, h1, h2, _⟩
  · cases h1
  · injection h1 with h1 _ _
    injection h1 with h1
    rw [h1]; exact h2
/-- What is behind the rounds of the reference's loop. -/
def rbk (k n : Nat) (z y : Int) : List Int := match k with | 0 => zer n | 1 => zer n ++ hiL z | _ => zer n ++ hiL z ++ hiL y
theorem rbk_len (k n : Nat) (z y : Int) (hk : k ≤ 2) : (rbk k n z y).length = n + 4 * k := by
  rcases (by omega : k = 0 ∨ k = 1 ∨ k = 2) with rfl | rfl | rfl <;> simp [rbk, hiL, zer_length]
theorem zer_one (t : Nat) : zer t ++ [0] = zer (t + 1) := by
  unfold zer; rw [List.replicate_succ']
theorem Rk.apart {w : World} {g h a : Nat} {d : D} {t : TypeId} {vs : Array Value} (hD : Rk w g h d) (hr : Row w a t vs) (h1 : t ≠ 48) (h2 : t ≠ 5) : a ≠ g ∧ a ≠ h := by
  obtain ⟨sp, cap, r, ho, rfl⟩ := hD
  have k1 : a ≠ g := by
    rintro rfl
    unfold Row at hr r
    rw [r] at hr
    injection hr with hr; injection hr with _ hr
    exact h1 hr.symm
  refine ⟨k1, ?_⟩
  rcases ho.row with ⟨rfl, _⟩ | ⟨g', cur, rfl, r2, _⟩
  · exact k1
  · intro e
    have e : a = g' := e
    unfold Row at hr r2
    rw [e, r2] at hr
    injection hr with hr; injection hr with _ hr
    exact h2 hr.symm

set_option maxRecDepth 20000 in
set_option maxHeartbeats 2000000 in
theorem rnext_any (r : D) (last : Int) (a g h : Nat) (w : World) (hL : Row w a 53 (rl g last)) (hD : Rk w g h r) (hlen : r.bytes.length ≤ 16777216) (hk1 : 0 ≤ r.left ∧ r.left ≤ 9223372036854775807) (hk2 : 0 ≤ r.ops ∧ r.ops ≤ 999990) (hl0 : 0 ≤ last) (hl1 : last ≤ 4294967295)
    (hk3 : ∀ b, (0 ≤ (rApp r b).left ∧ (rApp r b).left ≤ 9223372036854775807) ∧ (0 ≤ (rApp r b).ops ∧ (rApp r b).ops ≤ 1000000) ∧ (b.length ≤ 100 → (rApp r b).bytes.length ≤ 1099511627776))
    (E V last' : Int) (r' : D) (hE : (if last = 4294967295 then 16 else rwE r (rowL r.bytes (last + 1))) = E) (hr' : (if last = 4294967295 then r else rwD r (rowL r.bytes (last + 1))) = r') (hV : V = if E = 0 then last + 1 else 0) (hla : last' = if E = 0 then last + 1 else last) :
    Calls Try.prog 14 #[.pointer (some ⟨a, 0, none⟩)] w fun e w' => e = .returned (.tuple #[.int .i64 V, .int .i64 E]) ∧ ∃ h', Rk w' g h' r' ∧ Row w' a 53 (rl g last') ∧ Fr [g, a] w w' ∧ (h' = h ∨ h' = g ∨ w.heap.size ≤ h') := by
  have c1 : w.cell? ⟨a, 1, none⟩ = some (.int .i64 last) := hL.cell
  by_cases hm : last = 4294967295
  · rw [if_pos hm] at hE hr'
    subst hE hr'
    rw [if_neg (by decide)] at hV hla
    subst hV hla
    have hm' : decide (last' ≥ 4294967295) = true := by simp; omega
    go_enter Try.func14, Try.ntmps14
    go_wp2
    go_ret2
    exact ⟨rfl, h, hD, hL, Fr.refl _ _, .inl rfl⟩
  · rw [if_neg hm] at hE hr'
    have hm' : decide (last ≥ 4294967295) = false := by simp; omega
    have hlk : lackN r.bytes.length < 8 := by unfold lackN; omega
    have htm : ∀ t : Nat, t ≤ lackN r.bytes.length → ((((r.bytes.length : Int) + (t : Int)) % 8 != 0) = decide (t < lackN r.bytes.length)) := fun t ht => by
      by_cases h9 : t < lackN r.bytes.length
      · rw [decide_eq_true h9]
        have : ((r.bytes.length : Int) + (t : Int)) % 8 ≠ 0 := by unfold lackN at h9; omega
        simp [this]
      · rw [decide_eq_false h9]
        have : ((r.bytes.length : Int) + (t : Int)) % 8 = 0 := by unfold lackN at h9 ht; omega
        simp [this]
    have hrow : rbk 2 (lackN r.bytes.length) (last + 1) (-(last + 1) - 1) = rowL r.bytes (last + 1) := by
      show zer _ ++ hiL _ ++ hiL _ = zer _ ++ recL _
      rw [List.append_assoc, rec_hi]
    have hap := fun w1 h1 sp0 cap0 hd hb hb2 hn => rappend_any r (rowL r.bytes (last + 1)) sp0 cap0 g h1 w1 hd hb hb2 hn (by rw [rowL_len]; omega) (by omega) hk1 (by omega)
    rw [rowL_len] at hap
    generalize rowL r.bytes (last + 1) = B8 at *
    generalize lackN r.bytes.length = lk at *
    have hcell : ∀ wx, Below w.heap.size w wx → Row wx a 53 (rl g last) ∧ Rk wx g h r := fun wx hb => ⟨hL.below hb hL.lt, hD.fr (Fr.of_below (l := []) hb) (by simp) (by simp)⟩
    have c0 : ∀ wx, Below w.heap.size w wx → wx.cell? ⟨a, 0, none⟩ = some (.pointer (some ⟨g, 0, none⟩)) := fun wx hb => (hcell wx hb).1.cell
    obtain ⟨sp, cap, hbc⟩ : ∃ sp cap, ∀ wx, Below w.heap.size w wx → wx.cell? ⟨g, 2, none⟩ = some (.slice sp r.bytes.length cap) := by
      obtain ⟨sp, cap, hr, ho, _⟩ := hD
      exact ⟨sp, cap, fun wx hb => (hr.below hb hr.lt).cell⟩
    go_enter Try.func14, Try.ntmps14
    go_wp2
    go_loopw [5] (fun s wq => ∃ (t : Nat) (sq : Option Addr) (cq : Nat), s = .slice sq t cq ∧ t ≤ lk ∧ Own8 wq w.heap.size 5 (.slice sq t cq) (zer t) ∧ Below w.heap.size w wq) (fun s _ => 8 - (match s with | .slice _ n _ => n | _ => 0))
    case atStart => exact ⟨0, none, 0, rfl, Nat.zero_le _, ⟨rfl, .inl ⟨rfl, rfl⟩⟩, Below.refl _ _⟩
    case round =>
      obtain ⟨t, sq, cq, rfl, ht, ho, hbel⟩ := hrel
      have q0 := c0 _ hbel
      have q2 := hbc _ hbel
      have ht2 := htm t ht
      by_cases hlt : t < lk
      · rw [decide_eq_true hlt] at ht2
        have e1 := zer_one t
        have hs1 := hbel.size
        have hby := bytes_new wr [0]
        have ho1 : Own8 (wr.alloc (.cells (v8 [0]) 5)) w.heap.size 5 (.slice sq t cq) (zer t) := ho.below ((Below.refl _ _).alloc (Nat.le_refl _) _) (Nat.le_refl _)
        go_wp2_with (refine append8 (w := wr.alloc (.cells (v8 [0]) 5)) (.tmp 32) (.tmp 33) 38 5 (by rfl) (by rfl) w.heap.size Try.underlying38 info5 (.slice sq t cq) (zer t) (by rfl) ho1 (some ⟨wr.heap.size, 0, none⟩) 1 1 [0] (by rfl) rfl (fun h => by cases h) hby (by rw [zer_length]; omega) (by simp; omega) ?_; intro sp4 cap4 w6 o6 b6; rw [e1, zer_length] at o6 ⊢)
        go_roundw
        case rel => exact ⟨t + 1, sp4, cap4, rfl, by omega, o6, (hbel.alloc hs1 _).trans b6⟩
        case measure => show 8 - (t + 1) < 8 - t; omega
      · rw [decide_eq_false hlt] at ht2
        obtain rfl : t = lk := by omega
        clear htm ht hlt
        go_wp2
        obtain ⟨z, hz⟩ : ∃ z, last + 1 = z := ⟨_, rfl⟩
        have hz0 : 0 ≤ z ∧ z < 4294967296 := by omega
        rw [hz] at hrow ⊢
        rw [← not_i64 hz0] at hrow
        replace hz : Hid (_ = _) := hz
        go_loopw [5, 6] (fun s kk wq => ∃ (k : Nat) (sq : Option Addr) (m cq : Nat), s = .slice sq m cq ∧ kk = .int .i64 (k : Int) ∧ k ≤ 2 ∧ Own8 wq w.heap.size 5 (.slice sq m cq) (rbk k t z (bits .xor .i64 (-1) z)) ∧ Below w.heap.size w wq) (fun _ kk _ => 2 - (intOf kk).toNat)
        case atStart => exact ⟨0, sq, t, cq, rfl, rfl, by omega, ho, hbel⟩
        case round =>
          obtain ⟨k, sq, m, cq, rfl, rfl, hk, ho, hbel⟩ := hrel
          have hs1 := hbel.size
          by_cases hk2' : k < 2
          · rcases (by omega : k = 0 ∨ k = 1) with rfl | rfl
            · have hby := bytes_new wr (hiA z)
              have hone1 : Own8 (wr.alloc (.cells (v8 (hiA z)) 5)) w.heap.size 5 (.slice sq m cq) (rbk 0 t z (bits .xor .i64 (-1) z)) := ho.below ((Below.refl _ _).alloc (Nat.le_refl _) _) (Nat.le_refl _)
              have e1 : rbk 0 t z (bits .xor .i64 (-1) z) ++ hiA z = rbk 1 t z (bits .xor .i64 (-1) z) := by rw [hiA_eq (by omega)]; rfl
              have e3 := rbk_len 0 t z (bits .xor .i64 (-1) z) (by omega)
              have hfin : ∀ w6 sp4 cap4 m6, Own8 w6 w.heap.size 5 (.slice sp4 m6 cap4) (rbk 1 t z (bits .xor .i64 (-1) z)) → Below w.heap.size w w6 → ∃ (k : Nat) (sq : Option Addr) (m cq : Nat), Value.slice sp4 m6 cap4 = .slice sq m cq ∧ Value.int .i64 1 = .int .i64 (k : Int) ∧ k ≤ 2 ∧ Own8 w6 w.heap.size 5 (.slice sq m cq) (rbk k t z (bits .xor .i64 (-1) z)) ∧ Below w.heap.size w w6 := fun w6 sp4 cap4 m6 h1 h2 => ⟨1, sp4, m6, cap4, rfl, rfl, by omega, h1, h2⟩
              clear ho hk hk2'
              generalize rbk 1 t z (bits .xor .i64 (-1) z) = L1 at *
              generalize rbk 0 t z (bits .xor .i64 (-1) z) = L0 at *
              go_wp2_with (refine append8 (w := wr.alloc (.cells (v8 (hiA z)) 5)) (.tmp 44) (.tmp 56) 38 5 (by rfl) (by rfl) w.heap.size Try.underlying38 info5 (.slice sq m cq) L0 (by rfl) hone1 (some ⟨wr.heap.size, 0, none⟩) 4 4 (hiA z) (by rfl) rfl (fun h => by cases h) hby (by rw [e3]; omega) (by simp; omega) ?_; intro sp4 cap4 w6 o6 b6; rw [e1] at o6 ⊢; generalize L1.length = m6 at o6 ⊢)
              go_roundw
              case rel => exact hfin _ _ _ _ o6 ((hbel.alloc hs1 _).trans b6)
              case measure => simp [intOf]
            · have hby := bytes_new wr (hiL (bits .xor .i64 (-1) z))
              have hone1 : Own8 (wr.alloc (.cells (v8 (hiL (bits .xor .i64 (-1) z))) 5)) w.heap.size 5 (.slice sq m cq) (rbk 1 t z (bits .xor .i64 (-1) z)) := ho.below ((Below.refl _ _).alloc (Nat.le_refl _) _) (Nat.le_refl _)
              have e1 : rbk 1 t z (bits .xor .i64 (-1) z) ++ hiL (bits .xor .i64 (-1) z) = rbk 2 t z (bits .xor .i64 (-1) z) := rfl
              have e3 := rbk_len 1 t z (bits .xor .i64 (-1) z) (by omega)
              have hfin : ∀ w6 sp4 cap4 m6, Own8 w6 w.heap.size 5 (.slice sp4 m6 cap4) (rbk 2 t z (bits .xor .i64 (-1) z)) → Below w.heap.size w w6 → ∃ (k : Nat) (sq : Option Addr) (m cq : Nat), Value.slice sp4 m6 cap4 = .slice sq m cq ∧ Value.int .i64 2 = .int .i64 (k : Int) ∧ k ≤ 2 ∧ Own8 w6 w.heap.size 5 (.slice sq m cq) (rbk k t z (bits .xor .i64 (-1) z)) ∧ Below w.heap.size w w6 := fun w6 sp4 cap4 m6 h1 h2 => ⟨2, sp4, m6, cap4, rfl, rfl, by omega, h1, h2⟩
              clear ho hk hk2' hrow
              generalize rbk 2 t z (bits .xor .i64 (-1) z) = L1 at *
              generalize rbk 1 t z (bits .xor .i64 (-1) z) = L0 at *
              go_wp2_with (refine append8 (w := wr.alloc (.cells (v8 (hiL (bits .xor .i64 (-1) z))) 5)) (.tmp 44) (.tmp 56) 38 5 (by rfl) (by rfl) w.heap.size Try.underlying38 info5 (.slice sq m cq) L0 (by rfl) hone1 (some ⟨wr.heap.size, 0, none⟩) 4 4 (hiL (bits .xor .i64 (-1) z)) (by rfl) rfl (fun h => by cases h) hby (by rw [e3]; omega) (by simp; omega) ?_; intro sp4 cap4 w6 o6 b6; rw [e1] at o6 ⊢; generalize L1.length = m6 at o6 ⊢)
              go_roundw
              case rel => exact hfin _ _ _ _ o6 ((hbel.alloc hs1 _).trans b6)
              case measure => simp [intOf]
          · obtain rfl : k = 2 := by omega
            have hB8 : B8.length = t + 8 := by rw [← hrow, rbk_len 2 t z (bits .xor .i64 (-1) z) (by omega)]
            rw [hrow] at ho
            obtain rfl : m = t + 8 := by have h8 := ho.len; omega
            obtain ⟨hLw, hDw⟩ := hcell _ hbel
            have l1 := hD.lt
            have la := hL.lt
            have hapw := hap _ _ sq cq hDw ho.bytes (fun _ x hx => by subst hx; have h1 := own8_ge ho; omega) (fun h => ⟨(ho.none0 h).1, by have h1 := (ho.none0 h).2; omega⟩)
            have ha := hDw.apart hLw (by decide) (by decide)
            obtain ⟨E1, hE1⟩ : ∃ E1, rErr r B8 = E1 := ⟨_, rfl⟩
            obtain ⟨r1, hr1⟩ : ∃ r1, rApp r B8 = r1 := ⟨_, rfl⟩
            have hE2 : (if E1 = 0 then (if r1.dead then 17 else if rOk r1 then 0 else 17) else E1) = E := by rw [← hE, rwE, hE1, hr1]
            have hr2 : (if E1 = 0 then rSync r1 else r1) = r' := by rw [← hr', rwD, hE1, hr1]
            have hk4 := hk3 B8
            rw [hE1, hr1] at hapw
            rw [hr1] at hk4
            have hsy := fun w1 h1 hd => rsync_any r1 g h1 w1 hd hk4.1 hk4.2.1 (hk4.2.2 (by omega))
            obtain ⟨S, hS⟩ : ∃ S : Int, (if r1.dead then (17 : Int) else if rOk r1 then 0 else 17) = S := ⟨_, rfl⟩
            have hS2 : S = 0 ∨ S = 17 := by rw [← hS]; cases r1.dead <;> cases rOk r1 <;> simp
            rw [hS] at hE2
            simp only [hS] at hsy
            have hz1 : last + 1 = z := hz
            rw [hz1] at hV hla
            have q0 := c0 _ hbel
            have hF0 : Fr [g, a] w wr := Fr.of_below hbel
            have hs1 := hbel.size
            clear hap hk3 hk4 hE hr' hE1 hr1 hS hrow hcell c0 hbc ho hk2' ht2 hm' hm hz hz1 hk hk1 hk2 hlk hlen hB8 q2
            by_cases he : E1 = 0
            · subst he
              rw [if_pos rfl] at hE2 hr2
              subst hE2
              rw [hr2] at hsy
              clear hr2
              rcases hS2 with rfl | rfl
              · rw [if_pos rfl] at hV hla
                subst hV hla
                go_wp2_with (first | (go_at_call 20; (with_reducible refine Calls.mono hapw ?_); rintro e w5 ⟨rfl, h5, hD5, hF5, hor5⟩; have hL5 := hLw.fr hF5 (by simp; exact ha.1); have q5 : w5.cell? ⟨a, 0, none⟩ = some (.pointer (some ⟨g, 0, none⟩)) := hL5.cell) | (go_at_call 27; (with_reducible refine Calls.mono (hsy _ _ hD5) ?_); rintro e w6 ⟨rfl, hD6, hF6⟩; have hL6 := hL5.fr hF6 (by simp; exact ha.1); have q61 : w6.cell? ⟨a, 1, none⟩ = some (.int .i64 last) := hL6.cell; have q6f := hL6.frozen (j := 1)))
                go_ret2
                have hor6 : h5 = h ∨ h5 = g ∨ w.heap.size ≤ h5 := by
                  rcases hor5 with h1 | h1 | h1
                  · exact .inl h1
                  · exact .inr (.inl h1)
                  · exact .inr (.inr (by omega))
                have hah : a ≠ h5 := by
                  rcases hor6 with h1 | h1 | h1
                  · rw [h1]; exact ha.2
                  · rw [h1]; exact ha.1
                  · omega
                have hFa : ∀ u, Fr [a] w6 (w6.setCell ⟨a, 1, none⟩ u) := fun u => (Fr.refl _ _).setCell (by simp) _
                exact ⟨rfl, h5, hD6.fr (hFa _) (by simp; exact ha.1.symm) (by simp; exact hah.symm), hL6.set0 1 _, ((hF0.trans (hF5.mono (by simp))).trans (hF6.mono (by simp))).trans ((hFa _).mono (by simp)), hor6⟩
              · rw [if_neg (by decide)] at hV hla
                subst hV hla
                go_wp2_with (first | (go_at_call 20; (with_reducible refine Calls.mono hapw ?_); rintro e w5 ⟨rfl, h5, hD5, hF5, hor5⟩; have hL5 := hLw.fr hF5 (by simp; exact ha.1); have q5 : w5.cell? ⟨a, 0, none⟩ = some (.pointer (some ⟨g, 0, none⟩)) := hL5.cell) | (go_at_call 27; (with_reducible refine Calls.mono (hsy _ _ hD5) ?_); rintro e w6 ⟨rfl, hD6, hF6⟩; have hL6 := hL5.fr hF6 (by simp; exact ha.1)))
                go_ret2
                refine ⟨rfl, h5, hD6, hL6, (hF0.trans (hF5.mono (by simp))).trans (hF6.mono (by simp)), ?_⟩
                rcases hor5 with h1 | h1 | h1
                · exact .inl h1
                · exact .inr (.inl h1)
                · exact .inr (.inr (by omega))
            · rw [if_neg he] at hE2 hr2
              subst hE2 hr2
              rw [if_neg he] at hV hla
              subst hV hla
              have he1 : (E1 == 0) = false := by simp [he]
              have he2 : (E1 != 0) = true := by simp [he]
              clear hsy hS2
              go_wp2_with (go_at_call 20; (with_reducible refine Calls.mono hapw ?_); rintro e w5 ⟨rfl, h5, hD5, hF5, hor5⟩; have hL5 := hLw.fr hF5 (by simp; exact ha.1); have q5 : w5.cell? ⟨a, 0, none⟩ = some (.pointer (some ⟨g, 0, none⟩)) := hL5.cell)
              go_ret2
              refine ⟨rfl, h5, hD5, hL5, hF0.trans (hF5.mono (by simp)), ?_⟩
              rcases hor5 with h1 | h1 | h1
              · exact .inl h1
              · exact .inr (.inl h1)
              · exact .inr (.inr (by omega))
end Go.Proofs.Ytmfcildkkeeneaa
