/- The calls of both disks, side by side. No condition but small numbers. -/
import Derived.Test.YtmfcildkkeeneaaTwo
import Derived.Test.YtmfcildkkeeneaaSt
namespace Go.Proofs.Ytmfcildkkeeneaa
open Go Go.RowKit
structure Rb (r : D) : Prop where
  left : 0 ≤ r.left ∧ r.left ≤ 9223372036854775807
  ops : 0 ≤ r.ops ∧ r.ops ≤ 1000000
  len : (r.bytes.length : Int) ≤ 16777216
  syn : r.syn ≤ r.bytes.length
theorem rb_of {d r : D} (hk : Ok d) (hs : Sim d r) : Rb r := by
  have h1 := hk.fits
  have h2 := hk.room
  exact ⟨hs.rl, by rw [hs.ops]; exact hk.ops, by rw [hs.bytes]; omega, by rw [hs.bytes, hs.syn]; exact hk.syn⟩
section
variable {W w : World} {g h g2 h2 : Nat} {d r : D}
theorem tw_append (t : Two W w g h g2 h2 d r) (hk : Ok d) (bs : List Int) (sp0 : Option Addr) (n cap0 : Nat) (hn : n = bs.length) (hb : Bytes w sp0 bs) (hnil : sp0 = none → cap0 = 0 ∧ bs.length = 0) (hbl : bs.length ≤ 1099511627776) (E : Int) (d' : D) (hE : aErr d bs = E) (hd : dApp d bs = d') :
    Calls Try.prog 19 #[.pointer (some ⟨g, 0, none⟩), .slice sp0 n cap0] w fun e w' => e = .returned (.int .i64 E) ∧ ∃ h', Two W w' g h' g2 h2 d' r ∧ Fr [g, h] w w' ∧ (h' = h ∨ w.heap.size ≤ h') := by
  subst hn hE hd
  exact (append_any d bs sp0 cap0 g h w t.dk hk hb hnil hbl).mono fun _ _ ⟨he, h', hD, hf, hor⟩ => ⟨he, h', t.left hD hf hor, hf, hor⟩
theorem tr_append (t : Two W w g h g2 h2 d r) (hk : Rb r) (bs : List Int) (sp0 : Option Addr) (n cap0 : Nat) (hn : n = bs.length) (hb : Bytes w sp0 bs) (hb2 : 0 < bs.length → ∀ a, sp0 = some a → a.block ≠ g2) (hnil : sp0 = none → cap0 = 0 ∧ bs.length = 0) (hbl : bs.length ≤ 1099511627776) (E : Int) (r' : D) (hE : rErr r bs = E) (hr : rApp r bs = r') :
    Calls Try.prog 20 #[.pointer (some ⟨g2, 0, none⟩), .slice sp0 n cap0] w fun e w' => e = .returned (.int .i64 E) ∧ ∃ h', Two W w' g h g2 h' d r' ∧ Fr [g2] w w' ∧ (h' = h2 ∨ h' = g2 ∨ w.heap.size ≤ h') := by
  subst hn hE hr
  have := hk.len
  exact (rappend_any r bs sp0 cap0 g2 h2 w t.rk hb hb2 hnil hbl (by omega) hk.left hk.ops).mono fun _ _ ⟨he, h', hD, hf, hor⟩ => ⟨he, h', t.right hD hf hor, hf, hor⟩
theorem tw_sync (t : Two W w g h g2 h2 d r) (hk : Ok d) (E : Int) (d' : D) (hE : sErr d = E) (hd : dSync d = d') :
    Calls Try.prog 33 #[.pointer (some ⟨g, 0, none⟩)] w fun e w' => e = .returned (.int .i64 E) ∧ Two W w' g h g2 h2 d' r := by
  subst hE hd
  exact (sync_any d g h w t.dk hk).mono fun _ _ ⟨he, hD, hf⟩ => ⟨he, t.left hD (hf.mono (by simp)) (.inl rfl)⟩
theorem tr_sync (t : Two W w g h g2 h2 d r) (hk : Rb r) (E : Int) (r' : D) (hE : (if r.dead then 17 else if rOk r then 0 else 17 : Int) = E) (hr : rSync r = r') :
    Calls Try.prog 27 #[.pointer (some ⟨g2, 0, none⟩)] w fun e w' => e = .returned (.int .i64 E) ∧ Two W w' g h g2 h2 d r' := by
  subst hE hr
  have := hk.len
  exact (rsync_any r g2 h2 w t.rk hk.left hk.ops (by omega)).mono fun _ _ ⟨he, hD, hf⟩ => ⟨he, t.right hD hf (.inl rfl)⟩
theorem tw_stop (t : Two W w g h g2 h2 d r) (n : Int) (d' : D) (hd : { d with left := lmax n } = d') :
    Calls Try.prog 15 #[.pointer (some ⟨g, 0, none⟩), .int .i64 n] w fun e w' => e = .returned (.tuple #[]) ∧ Two W w' g h g2 h2 d' r ∧ Fr [g, h] w w' := by
  subst hd
  exact (stop_any d n g h w t.dk).mono fun _ _ ⟨he, hD, hf⟩ => ⟨he, t.left hD (hf.mono (by simp)) (.inl rfl), hf.mono (by simp)⟩
theorem tr_stop (t : Two W w g h g2 h2 d r) (n : Int) (r' : D) (hr : { r with left := lmax n } = r') :
    Calls Try.prog 16 #[.pointer (some ⟨g2, 0, none⟩), .int .i64 n] w fun e w' => e = .returned (.tuple #[]) ∧ Two W w' g h g2 h2 d r' := by
  subst hr
  exact (rstop_any r n g2 h2 w t.rk).mono fun _ _ ⟨he, hD, hf⟩ => ⟨he, t.right hD hf (.inl rfl)⟩
theorem tw_crash (t : Two W w g h g2 h2 d r) (hk : Ok d) (p : Int) (k : Int) (d' : D) (hE : (stay d p : Int) = k) (hd : dCrash d p = d') :
    Calls Try.prog 17 #[.pointer (some ⟨g, 0, none⟩), .int .i64 p] w fun e w' => e = .returned (.int .i64 k) ∧ Two W w' g h g2 h2 d' r ∧ Fr [g, h] w w' := by
  subst hE hd
  exact (crash_any d p g h w t.dk hk).mono fun _ _ ⟨he, hD, hf⟩ => ⟨he, t.left hD (hf.mono (by simp)) (.inl rfl), hf.mono (by simp)⟩
theorem tr_crash (t : Two W w g h g2 h2 d r) (hk : Rb r) (p : Int) (k : Int) (r' : D) (hE : (stay r p : Int) = k) (hr : dCrash r p = r') :
    Calls Try.prog 18 #[.pointer (some ⟨g2, 0, none⟩), .int .i64 p] w fun e w' => e = .returned (.int .i64 k) ∧ Two W w' g h g2 h2 d r' := by
  subst hE hr
  exact (rcrash_any r p g2 h2 w t.rk hk.len hk.syn).mono fun _ _ ⟨he, hD, hf⟩ => ⟨he, t.right hD hf (.inl rfl)⟩
theorem tw_bytes (t : Two W w g h g2 h2 d r) (hk : Ok d) (bs : List Int) (n : Nat) (hbs : d.bytes = bs) (hn : bs.length = n) :
    Calls Try.prog 22 #[.pointer (some ⟨g, 0, none⟩)] w fun e w' => ∃ b, e = .returned (.slice (some ⟨b, 0, none⟩) n n) ∧ Row w' b 5 (v8 bs) ∧ Two W w' g h g2 h2 d r ∧ Below w.heap.size w w' := by
  subst hbs hn
  exact (bytes_any d g h w t.dk hk).mono fun _ _ ⟨he, hr, hb⟩ => ⟨_, he, hr, t.later hb, hb⟩
theorem tw_dead (t : Two W w g h g2 h2 d r) (b : Bool) (hb : d.dead = b) :
    Calls Try.prog 23 #[.pointer (some ⟨g, 0, none⟩)] w fun e w' => e = .returned (.bool b) ∧ w' = w := by
  subst hb; exact dead_any d g h w t.dk
theorem tw_ops (t : Two W w g h g2 h2 d r) (b : Int) (hb : d.ops = b) :
    Calls Try.prog 25 #[.pointer (some ⟨g, 0, none⟩)] w fun e w' => e = .returned (.int .i64 b) ∧ w' = w := by
  subst hb; exact ops_any d g h w t.dk
/-- Bytes of one's own that are some: where they lie. -/
theorem own8_some {B n cap : Nat} {sp : Option Addr} {l : List Int} (ho : Own8 w B 5 (.slice sp n cap) l) (hl : 0 < l.length) : ∃ gm cur, sp = some ⟨gm, 0, none⟩ ∧ B ≤ gm ∧ Row w gm 5 cur ∧ l.length ≤ cur.size := by
  obtain ⟨h0, hq⟩ := ho
  rcases hq with ⟨_, h1⟩ | ⟨gm, cap', cur, hv, hg, hh, h1, h2, h3, h4⟩
  · omega
  · injection hv with e1 e2 e3
    exact ⟨gm, cur, e1, hg, hh, by omega⟩
end
end Go.Proofs.Ytmfcildkkeeneaa
