/- A ledger of the program's and one of the reference's, side by side, with their disks. -/
import Derived.Test.YtmfcildkkeeneaaRNext
namespace Go.Proofs.Ytmfcildkkeeneaa
open Go Go.RowKit

/-- Both disks, both ledgers: the program's at a, the reference's at b. -/
structure Lv (W w : World) (g h a g2 h2 b : Nat) (d r : D) (lA oA lB : Int) : Prop where
  two : Two W w g h g2 h2 d r
  rowA : Row w a 63 (lc g lA oA)
  rowB : Row w b 53 (rl g2 lB)
  ha : W.heap.size ≤ a
  hb : W.heap.size ≤ b
/-- And a call, that came in, at m. -/
structure Lt (W w : World) (m : Nat) (M : Array Value) (g h a g2 h2 b : Nat) (d r : D) (lA oA lB : Int) : Prop where
  lv : Lv W w g h a g2 h2 b d r lA oA lB
  rowM : Row w m 40 M
theorem row_ne {w : World} {a b : Nat} {s t : TypeId} {us vs : Array Value} (h : Row w a s us) (k : Row w b t vs) (hst : s ≠ t) : a ≠ b := by
  rintro rfl
  unfold Row at h k
  rw [h] at k
  injection k with k; injection k with _ k
  exact hst k
section
variable {W w w' : World} {m g h a g2 h2 b : Nat} {M : Array Value} {d r : D} {lA oA lB : Int}
theorem Lt.stepL {h' : Nat} {d' : D} {lA' oA' : Int} (t : Lt W w m M g h a g2 h2 b d r lA oA lB) (hD : Dk w' g h' d') (hA : Row w' a 63 (lc g lA' oA')) (hF : Fr [g, h, a] w w') (hor : h' = h ∨ w.heap.size ≤ h') : Lt W w' m M g h' a g2 h2 b d' r lA' oA' lB := by
  obtain ⟨⟨two, rowA, rowB, ha, hb⟩, rowM⟩ := t
  have x1 := two.rk.apart rowA (by decide) (by decide)
  have x2 := two.dk.apart rowB (by decide) (by decide)
  have x3 := two.dk.apart rowM (by decide) (by decide)
  have x4 := row_ne rowB rowA (by decide)
  have x5 := row_ne rowM rowA (by decide)
  have l2 := two.rk.lt
  have hs := two.below.size
  refine ⟨⟨⟨hD, two.rk.fr hF (by simp; exact ⟨two.n1.symm, two.n3.symm, x1.1.symm⟩) (by simp; exact ⟨two.n2.symm, two.n4.symm, x1.2.symm⟩), two.below.trans (hF.below (fun k hk => ?_) hs), two.hg, ?_, two.hg2, two.hh2, two.n1, two.n2, ?_, ?_⟩, hA, rowB.fr hF (by simp; exact ⟨x2.1, x2.2, x4⟩), ha, hb⟩, rowM.fr hF (by simp; exact ⟨x3.1, x3.2, x5⟩)⟩
  · simp only [List.mem_cons, List.not_mem_nil, or_false] at hk
    rcases hk with rfl | rfl | rfl
    · exact two.hg
    · exact two.hh
    · exact ha
  · rcases hor with rfl | h1
    · exact two.hh
    · omega
  · rcases hor with rfl | h1
    · exact two.n3
    · omega
  · rcases hor with rfl | h1
    · exact two.n4
    · omega
theorem Lt.stepR {h2' : Nat} {r' : D} {lB' : Int} (t : Lt W w m M g h a g2 h2 b d r lA oA lB) (hR : Rk w' g2 h2' r') (hB : Row w' b 53 (rl g2 lB')) (hF : Fr [g2, b] w w') (hor : h2' = h2 ∨ h2' = g2 ∨ w.heap.size ≤ h2') : Lt W w' m M g h a g2 h2' b d r' lA oA lB' := by
  obtain ⟨⟨two, rowA, rowB, ha, hb⟩, rowM⟩ := t
  have x1 := two.rk.apart rowA (by decide) (by decide)
  have x2 := two.dk.apart rowB (by decide) (by decide)
  have x3 := two.rk.apart rowM (by decide) (by decide)
  have x4 := row_ne rowA rowB (by decide)
  have x5 := row_ne rowM rowB (by decide)
  have l2 := two.dk.lt
  have hs := two.below.size
  refine ⟨⟨⟨two.dk.fr hF (by simp; exact ⟨two.n1, x2.1.symm⟩) (by simp; exact ⟨two.n3, x2.2.symm⟩), hR, two.below.trans (hF.below (fun k hk => ?_) hs), two.hg, two.hh, two.hg2, ?_, two.n1, ?_, two.n3, ?_⟩, rowA.fr hF (by simp; exact ⟨x1.1, x4⟩), hB, ha, hb⟩, rowM.fr hF (by simp; exact ⟨x3.1, x5⟩)⟩
  · simp only [List.mem_cons, List.not_mem_nil, or_false] at hk
    rcases hk with rfl | rfl
    · exact two.hg2
    · exact hb
  · rcases hor with rfl | rfl | h1
    · exact two.hh2
    · exact two.hg2
    · omega
  · rcases hor with rfl | rfl | h1
    · exact two.n2
    · exact two.n1
    · omega
  · rcases hor with rfl | rfl | h1
    · exact two.n4
    · exact two.n3
    · omega
theorem Lv.later (t : Lv W w g h a g2 h2 b d r lA oA lB) (hb : Below w.heap.size w w') : Lv W w' g h a g2 h2 b d r lA oA lB :=
  ⟨t.two.later hb, t.rowA.below hb t.rowA.lt, t.rowB.below hb t.rowB.lt, t.ha, t.hb⟩
theorem Lt.later (t : Lt W w m M g h a g2 h2 b d r lA oA lB) (hb : Below w.heap.size w w') : Lt W w' m M g h a g2 h2 b d r lA oA lB :=
  ⟨t.lv.later hb, t.rowM.below hb t.rowM.lt⟩
theorem Lt.keepA (t : Lt W w m M g h a g2 h2 b d r lA oA lB) (hF : Fr [g, h] w w') : Row w' a 63 (lc g lA oA) := by
  have x := t.lv.two.dk.apart t.lv.rowA (by decide) (by decide)
  exact t.lv.rowA.fr hF (by simp; exact x)
theorem Lt.keepB (t : Lt W w m M g h a g2 h2 b d r lA oA lB) (hF : Fr [g2] w w') : Row w' b 53 (rl g2 lB) := by
  have x := t.lv.two.rk.apart t.lv.rowB (by decide) (by decide)
  exact t.lv.rowB.fr hF (by simp; exact x.1)

theorem lt_next (t : Lt W w m M g h a g2 h2 b d r lA oA lB) (hk : Ok d) (ho : d.ops < 999990) (heq : d.ops = oA) (hl : 0 ≤ lA ∧ lA ≤ 4294967295) (E V lA' oA' : Int) (d' : D) (hE : nE d lA = E) (hd' : nD d lA = d') (hV : V = if E = 0 then lA + 1 else 0) (hla : lA' = if E = 0 then lA + 1 else lA) (ho' : d'.ops = oA') :
    Calls Try.prog 13 #[.pointer (some ⟨a, 0, none⟩)] w fun e w' => e = .returned (.tuple #[.int .i64 V, .int .i64 E]) ∧ ∃ h', Lt W w' m M g h' a g2 h2 b d' r lA' oA' lB :=
  (next_any d lA oA a g h w t.lv.rowA t.lv.two.dk hk ho heq hl.1 hl.2 E V lA' oA' d' hE hd' hV hla ho').mono fun _ _ ⟨he, h', hD, hR, hF, hor⟩ => ⟨he, h', t.stepL hD hR hF hor⟩
theorem lt_rnext {d0 : D} (t : Lt W w m M g h a g2 h2 b d r lA oA lB) (hk : Ok d0) (hs : Sim d0 r) (ho : d0.ops < 999990) (hl : 0 ≤ lB ∧ lB ≤ 4294967295) (E V lB' : Int) (r' : D) (hE : (if lB = 4294967295 then 16 else rwE r (rowL r.bytes (lB + 1))) = E) (hr' : (if lB = 4294967295 then r else rwD r (rowL r.bytes (lB + 1))) = r') (hV : V = if E = 0 then lB + 1 else 0) (hla : lB' = if E = 0 then lB + 1 else lB) :
    Calls Try.prog 14 #[.pointer (some ⟨b, 0, none⟩)] w fun e w' => e = .returned (.tuple #[.int .i64 V, .int .i64 E]) ∧ ∃ h', Lt W w' m M g h a g2 h' b d r' lA oA lB' := by
  have hb := rb_of hk hs
  have hb2 := fun c => rb_of (ok_app hk (show d0.ops < 1000000 by omega) c) (sim_app hs c).2
  have h1 := hb.len
  have h2' := hb.ops
  have h3 := hs.ops
  exact (rnext_any r lB b g2 h2 w t.lv.rowB t.lv.two.rk (by omega) hb.left (by omega) hl.1 hl.2 (fun c => ⟨(hb2 c).left, (hb2 c).ops, fun _ => by have := (hb2 c).len; omega⟩) E V lB' r' hE hr' hV hla).mono fun _ _ ⟨he, h', hD, hR, hF, hor⟩ => ⟨he, h', t.stepR hD hR hF hor⟩
theorem lt_stop (t : Lt W w m M g h a g2 h2 b d r lA oA lB) (n : Int) (d' : D) (hd : { d with left := lmax n } = d') :
    Calls Try.prog 15 #[.pointer (some ⟨g, 0, none⟩), .int .i64 n] w fun e w' => e = .returned (.tuple #[]) ∧ Lt W w' m M g h a g2 h2 b d' r lA oA lB := by
  subst hd
  exact (stop_any d n g h w t.lv.two.dk).mono fun _ _ ⟨he, hD, hF⟩ => ⟨he, t.stepL hD (t.keepA (hF.mono (by simp))) (hF.mono (by simp)) (.inl rfl)⟩
theorem lt_rstop (t : Lt W w m M g h a g2 h2 b d r lA oA lB) (n : Int) (r' : D) (hr : { r with left := lmax n } = r') :
    Calls Try.prog 16 #[.pointer (some ⟨g2, 0, none⟩), .int .i64 n] w fun e w' => e = .returned (.tuple #[]) ∧ Lt W w' m M g h a g2 h2 b d r' lA oA lB := by
  subst hr
  exact (rstop_any r n g2 h2 w t.lv.two.rk).mono fun _ _ ⟨he, hD, hF⟩ => ⟨he, t.stepR hD (t.keepB hF) (hF.mono (by simp)) (.inl rfl)⟩
theorem lt_crash (t : Lt W w m M g h a g2 h2 b d r lA oA lB) (hk : Ok d) (p : Int) (k : Int) (d' : D) (hE : (stay d p : Int) = k) (hd : dCrash d p = d') :
    Calls Try.prog 17 #[.pointer (some ⟨g, 0, none⟩), .int .i64 p] w fun e w' => e = .returned (.int .i64 k) ∧ Lt W w' m M g h a g2 h2 b d' r lA oA lB := by
  subst hE hd
  exact (crash_any d p g h w t.lv.two.dk hk).mono fun _ _ ⟨he, hD, hF⟩ => ⟨he, t.stepL hD (t.keepA (hF.mono (by simp))) (hF.mono (by simp)) (.inl rfl)⟩
theorem lt_rcrash (t : Lt W w m M g h a g2 h2 b d r lA oA lB) (hk : Rb r) (p : Int) (k : Int) (r' : D) (hE : (stay r p : Int) = k) (hr : dCrash r p = r') :
    Calls Try.prog 18 #[.pointer (some ⟨g2, 0, none⟩), .int .i64 p] w fun e w' => e = .returned (.int .i64 k) ∧ Lt W w' m M g h a g2 h2 b d r' lA oA lB := by
  subst hE hr
  exact (rcrash_any r p g2 h2 w t.lv.two.rk hk.len hk.syn).mono fun _ _ ⟨he, hD, hF⟩ => ⟨he, t.stepR hD (t.keepB hF) (hF.mono (by simp)) (.inl rfl)⟩
theorem lt_append (t : Lt W w m M g h a g2 h2 b d r lA oA lB) (hk : Ok d) (bs : List Int) (sp0 : Option Addr) (n cap0 : Nat) (hn : n = bs.length) (hb : Bytes w sp0 bs) (hnil : sp0 = none → cap0 = 0 ∧ bs.length = 0) (hbl : bs.length ≤ 1099511627776) (E : Int) (d' : D) (hE : aErr d bs = E) (hd : dApp d bs = d') :
    Calls Try.prog 19 #[.pointer (some ⟨g, 0, none⟩), .slice sp0 n cap0] w fun e w' => e = .returned (.int .i64 E) ∧ ∃ h', Lt W w' m M g h' a g2 h2 b d' r lA oA lB := by
  subst hn hE hd
  exact (append_any d bs sp0 cap0 g h w t.lv.two.dk hk hb hnil hbl).mono fun _ _ ⟨he, h', hD, hF, hor⟩ => ⟨he, h', t.stepL hD (t.keepA hF) (hF.mono (by simp)) hor⟩
theorem lt_rappend (t : Lt W w m M g h a g2 h2 b d r lA oA lB) (hk : Rb r) (bs : List Int) (sp0 : Option Addr) (n cap0 : Nat) (hn : n = bs.length) (hb : Bytes w sp0 bs) (hb2 : 0 < bs.length → ∀ a, sp0 = some a → a.block ≠ g2) (hnil : sp0 = none → cap0 = 0 ∧ bs.length = 0) (hbl : bs.length ≤ 1099511627776) (E : Int) (r' : D) (hE : rErr r bs = E) (hr : rApp r bs = r') :
    Calls Try.prog 20 #[.pointer (some ⟨g2, 0, none⟩), .slice sp0 n cap0] w fun e w' => e = .returned (.int .i64 E) ∧ ∃ h', Lt W w' m M g h a g2 h' b d r' lA oA lB := by
  subst hn hE hr
  have := hk.len
  exact (rappend_any r bs sp0 cap0 g2 h2 w t.lv.two.rk hb hb2 hnil hbl (by omega) hk.left hk.ops).mono fun _ _ ⟨he, h', hD, hF, hor⟩ => ⟨he, h', t.stepR hD (t.keepB hF) (hF.mono (by simp)) hor⟩
theorem lt_open (t : Lt W w m M g h a g2 h2 b d r lA oA lB) (hk : Ok d) (hb : By d.bytes) (hdd : d.dead = false) (G O : Int) (hG : grL d.bytes = G) (hO : d.ops = O) :
    Calls Try.prog 11 #[.pointer (some ⟨g, 0, none⟩)] w fun e w' => ∃ a', e = .returned (.tuple #[.pointer (some ⟨a', 0, none⟩), .int .i64 0]) ∧ Lt W w' m M g h a' g2 h2 b d r G O lB ∧ Row w' a 63 (lc g lA oA) := by
  subst hG hO
  exact (open_any d g h w t.lv.two.dk hk hb hdd).mono fun _ _ ⟨a', he, ha, hr2, hb2⟩ =>
    let t2 := t.later hb2
    ⟨a', he, ⟨⟨t2.lv.two, hr2, t2.lv.rowB, Nat.le_trans t.lv.two.below.size ha, t.lv.hb⟩, t2.rowM⟩, t2.lv.rowA⟩
theorem lt_ropen (t : Lt W w m M g h a g2 h2 b d r lA oA lB) (hlen : r.bytes.length ≤ 16777216) (hb : By r.bytes) (hdd : r.dead = false) (G : Int) (hG : grL r.bytes = G) :
    Calls Try.prog 12 #[.pointer (some ⟨g2, 0, none⟩)] w fun e w' => ∃ b', e = .returned (.tuple #[.pointer (some ⟨b', 0, none⟩), .int .i64 0]) ∧ Lt W w' m M g h a g2 h2 b' d r lA oA G := by
  subst hG
  exact (ropen_any r g2 h2 w t.lv.two.rk hlen hb hdd).mono fun _ _ ⟨b', he, hb1, hr2, hb2⟩ =>
    let t2 := t.later hb2
    ⟨b', he, ⟨⟨t2.lv.two, t2.lv.rowA, hr2, t.lv.ha, Nat.le_trans t.lv.two.below.size hb1⟩, t2.rowM⟩⟩
end
theorem sim_n {d r : D} (h : Sim d r) (last : Int) : (if last = 4294967295 then 16 else rwE r (rowL r.bytes (last + 1))) = nE d last ∧ Sim (nD d last) (if last = 4294967295 then r else rwD r (rowL r.bytes (last + 1))) := by
  unfold nE nD
  rw [h.bytes]
  obtain ⟨h1, h2⟩ := sim_w h (rowL d.bytes (last + 1))
  split
  · exact ⟨rfl, h⟩
  · exact ⟨h1, h2⟩
theorem app_dead {d : D} (h : d.dead = false) (b : List Int) (h2 : (dApp d b).dead = true) : (dApp d b).ops = d.ops := by
  by_cases hf : (b.length : Int) > d.room - d.bytes.length
  · have e : dApp d b = d := by simp only [dApp, h, hf, if_true, if_false, Bool.false_eq_true]
    rw [e]
  · have e : dApp d b = dWork { d with bytes := d.bytes ++ b } := by simp only [dApp, h, hf, if_false, Bool.false_eq_true]
    rw [e] at h2 ⊢
    by_cases hl : d.left = 1
    · simp [dWork, hl]
    · simp [dWork, hl, h] at h2
end Go.Proofs.Ytmfcildkkeeneaa
