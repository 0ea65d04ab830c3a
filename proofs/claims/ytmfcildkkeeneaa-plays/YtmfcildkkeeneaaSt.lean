/- A disk of the program in a law's walk: where it stands, that it is small, and that all old memory is as it was. No condition but small numbers. -/
import Derived.Test.YtmfcildkkeeneaaDisk3
import Derived.Lib.SlBytesConst
namespace Go.Proofs.Ytmfcildkkeeneaa
open Go Go.RowKit
theorem ok_work {d : D} (h : Ok d) (ho : d.ops < 1000000) : Ok (dWork d) := by
  obtain ⟨h1, h2, h3, h4, h5⟩ := h
  unfold dWork
  split
  · exact ⟨h1, h2, h3, h4, h5⟩
  · refine ⟨h1, h2, h3, ?_, ?_⟩
    · show 0 ≤ (if 0 < d.left then d.left - 1 else d.left) ∧ (if 0 < d.left then d.left - 1 else d.left) ≤ _
      split <;> omega
    · show 0 ≤ d.ops + 1 ∧ d.ops + 1 ≤ _
      omega
theorem ok_app {d : D} (h : Ok d) (ho : d.ops < 1000000) (b : List Int) : Ok (dApp d b) := by
  unfold dApp
  split
  · exact h
  · split
    · exact h
    · refine ok_work ⟨h.room, ?_, ?_, h.left, h.ops⟩ ho
      · have := h.fits; simp only [List.length_append]; omega
      · have := h.syn; simp only [List.length_append]; omega
theorem ok_sync {d : D} (h : Ok d) (ho : d.ops < 1000000) : Ok (dSync d) := by
  unfold dSync
  split
  · exact h
  · split
    · exact ok_work h ho
    · have hw := ok_work h ho
      refine ⟨hw.room, hw.fits, ?_, hw.left, hw.ops⟩
      rw [dWork_bytes]; exact Nat.le_refl _
theorem ok_crash {d : D} (h : Ok d) (p : Int) : Ok (dCrash d p) := by
  obtain ⟨s1, s2⟩ := stay_le h.syn p
  have hf := h.fits
  refine ⟨h.room, ?_, ?_, ⟨Int.le_refl _, by show (0 : Int) ≤ _; decide⟩, h.ops⟩
  · show ((d.bytes.take (d.syn + stay d p)).length : Int) ≤ d.room
    simp only [List.length_take]; omega
  · show d.syn + stay d p ≤ (d.bytes.take (d.syn + stay d p)).length
    simp only [List.length_take]; omega
theorem ok_stop {d : D} (h : Ok d) (n : Int) (hn : n ≤ 9223372036854775807) : Ok { d with left := lmax n } := by
  refine ⟨h.room, h.fits, h.syn, ?_, h.ops⟩
  show 0 ≤ lmax n ∧ lmax n ≤ _
  unfold lmax; split <;> omega
theorem work_ops (d : D) : d.ops ≤ (dWork d).ops ∧ (dWork d).ops ≤ d.ops + 1 := by unfold dWork; split <;> simp only <;> omega
theorem app_ops (d : D) (b : List Int) : d.ops ≤ (dApp d b).ops ∧ (dApp d b).ops ≤ d.ops + 1 := by
  unfold dApp
  split
  · omega
  · split
    · omega
    · exact work_ops _
theorem sync_ops (d : D) : d.ops ≤ (dSync d).ops ∧ (dSync d).ops ≤ d.ops + 1 := by
  unfold dSync
  split
  · omega
  · split
    · exact work_ops _
    · exact work_ops d

/-- The law began in world W; now the disk d lies at g, its bytes at h, both new. -/
structure St (W w : World) (g h : Nat) (d : D) : Prop where
  dk : Dk w g h d
  ok : Ok d
  below : Below W.heap.size W w
  hg : W.heap.size ≤ g
  hh : W.heap.size ≤ h
theorem St.step {W w w' : World} {g h h' : Nat} {d d' : D} (s : St W w g h d) (hD : Dk w' g h' d') (hk : Ok d') (hf : Fr [g, h] w w') (hor : h' = h ∨ w.heap.size ≤ h') : St W w' g h' d' :=
  ⟨hD, hk, s.below.trans (hf.below (fun k hk => by
    simp only [List.mem_cons, List.not_mem_nil, or_false] at hk
    rcases hk with rfl | rfl
    · exact s.hg
    · exact s.hh) s.below.size), s.hg, by
    rcases hor with rfl | h1
    · exact s.hh
    · exact Nat.le_trans s.below.size h1⟩
theorem St.step1 {W w w' : World} {g h : Nat} {d d' : D} (s : St W w g h d) (hD : Dk w' g h d') (hk : Ok d') (hf : Fr [g] w w') : St W w' g h d' := s.step hD hk (hf.mono (by simp)) (.inl rfl)
theorem St.later {W w w' : World} {g h : Nat} {d : D} (s : St W w g h d) (hb : Below w.heap.size w w') : St W w' g h d :=
  ⟨s.dk.fr (Fr.of_below (l := []) hb) (by simp) (by simp), s.ok, s.below.trans (hb.mono s.below.size), s.hg, s.hh⟩
theorem St.alloc {W w : World} {g h : Nat} {d : D} (s : St W w g h d) (o : Obj) : St W (w.alloc o) g h d := s.later ((Below.refl _ _).alloc (Nat.le_refl _) o)
theorem St.drewN {W w : World} {g h : Nat} {d : D} (s : St W w g h d) (n : Nat) : St W (w.drewN n) g h d := s.later (below_drewN (Below.refl _ _) n)
theorem bytes_new (w : World) (l : List Int) : Bytes (w.alloc (.cells (v8 l) 5)) (some ⟨w.heap.size, 0, none⟩) l := fun _ =>
  ⟨w.heap.size, 0, rfl, fun j hj => by rw [Nat.zero_add]; exact (Row.new w 5 (v8 l)).cell8 hj⟩
theorem bytes_newM (w : World) (l : List Int) (fr : Nat × Nat) : Bytes (w.alloc (.cells (v8 l) 5 fr)) (some ⟨w.heap.size, 0, none⟩) l := fun _ => by
  have hr : (w.alloc (.cells (v8 l) 5 fr)).heap[w.heap.size]? = some (.cells (v8 l) 5 fr) := by
    show (w.heap.push _)[w.heap.size]? = _
    simp
  exact ⟨w.heap.size, 0, rfl, fun j hj => by rw [Nat.zero_add, cell_of_row _ _ j _ 5 fr hr]; exact v8_at hj⟩
theorem Row.bytes {w : World} {g : Nat} {t : TypeId} {l : List Int} (h : Row w g t (v8 l)) : Bytes w (some ⟨g, 0, none⟩) l := fun _ =>
  ⟨g, 0, rfl, fun j hj => by rw [Nat.zero_add]; exact h.cell8 hj⟩

theorem st_new (room : Int) (W w : World) (hb : Below W.heap.size W w) (h : 1 ≤ room ∧ room ≤ 16777216) :
    Calls Try.prog 9 #[.int .i64 room] w fun e w' => ∃ g, e = .returned (.tuple #[.pointer (some ⟨g, 0, none⟩), .int .i64 0]) ∧ St W w' g g (dNew room) :=
  (new_any room w h).mono fun _ _ ⟨he, hD, hb'⟩ => ⟨_, he, hD, ok_new h, hb.trans (hb'.mono hb.size), hb.size, hb.size⟩
theorem st_append {W w : World} {g h : Nat} {d : D} (s : St W w g h d) (bs : List Int) (sp0 : Option Addr) (n cap0 : Nat) (hn : n = bs.length) (hb : Bytes w sp0 bs) (hnil : sp0 = none → cap0 = 0 ∧ bs.length = 0) (hbl : bs.length ≤ 1099511627776) (ho : d.ops < 1000000) (E : Int) (d' : D) (hE : aErr d bs = E) (hd : dApp d bs = d') :
    Calls Try.prog 19 #[.pointer (some ⟨g, 0, none⟩), .slice sp0 n cap0] w fun e w' => e = .returned (.int .i64 E) ∧ ∃ h', St W w' g h' d' ∧ Fr [g, h] w w' := by
  subst hn hE hd
  exact (append_any d bs sp0 cap0 g h w s.dk s.ok hb hnil hbl).mono fun _ _ ⟨he, h', hD, hf, hor⟩ => ⟨he, h', s.step hD (ok_app s.ok ho bs) hf hor, hf⟩
theorem st_sync {W w : World} {g h : Nat} {d : D} (s : St W w g h d) (ho : d.ops < 1000000) (E : Int) (d' : D) (hE : sErr d = E) (hd : dSync d = d') :
    Calls Try.prog 33 #[.pointer (some ⟨g, 0, none⟩)] w fun e w' => e = .returned (.int .i64 E) ∧ St W w' g h d' ∧ Fr [g] w w' := by
  subst hE hd
  exact (sync_any d g h w s.dk s.ok).mono fun _ _ ⟨he, hD, hf⟩ => ⟨he, s.step1 hD (ok_sync s.ok ho) hf, hf⟩
theorem st_stop {W w : World} {g h : Nat} {d : D} (s : St W w g h d) (n : Int) (hn : n ≤ 9223372036854775807) :
    Calls Try.prog 15 #[.pointer (some ⟨g, 0, none⟩), .int .i64 n] w fun e w' => e = .returned (.tuple #[]) ∧ St W w' g h { d with left := lmax n } ∧ Fr [g] w w' :=
  (stop_any d n g h w s.dk).mono fun _ _ ⟨he, hD, hf⟩ => ⟨he, s.step1 hD (ok_stop s.ok n hn) hf, hf⟩
theorem st_crash {W w : World} {g h : Nat} {d : D} (s : St W w g h d) (p : Int) (k : Int) (d' : D) (hk : (stay d p : Int) = k) (hd : dCrash d p = d') :
    Calls Try.prog 17 #[.pointer (some ⟨g, 0, none⟩), .int .i64 p] w fun e w' => e = .returned (.int .i64 k) ∧ St W w' g h d' ∧ Fr [g] w w' := by
  subst hk hd
  exact (crash_any d p g h w s.dk s.ok).mono fun _ _ ⟨he, hD, hf⟩ => ⟨he, s.step1 hD (ok_crash s.ok p) hf, hf⟩
theorem st_bytes {W w : World} {g h : Nat} {d : D} (s : St W w g h d) (bs : List Int) (n : Nat) (hbs : d.bytes = bs) (hn : bs.length = n) :
    Calls Try.prog 22 #[.pointer (some ⟨g, 0, none⟩)] w fun e w' => ∃ b, e = .returned (.slice (some ⟨b, 0, none⟩) n n) ∧ Row w' b 5 (v8 bs) ∧ W.heap.size ≤ b ∧ St W w' g h d ∧ Below w.heap.size w w' := by
  subst hbs hn
  exact (bytes_any d g h w s.dk s.ok).mono fun _ _ ⟨he, hr, hb⟩ => ⟨_, he, hr, s.below.size, s.later hb, hb⟩
theorem st_dead {W w : World} {g h : Nat} {d : D} (s : St W w g h d) (b : Bool) (hb : d.dead = b) :
    Calls Try.prog 23 #[.pointer (some ⟨g, 0, none⟩)] w fun e w' => e = .returned (.bool b) ∧ w' = w := by
  subst hb; exact dead_any d g h w s.dk
theorem st_ops {W w : World} {g h : Nat} {d : D} (s : St W w g h d) (b : Int) (hb : d.ops = b) :
    Calls Try.prog 25 #[.pointer (some ⟨g, 0, none⟩)] w fun e w' => e = .returned (.int .i64 b) ∧ w' = w := by
  subst hb; exact ops_any d g h w s.dk
end Go.Proofs.Ytmfcildkkeeneaa
