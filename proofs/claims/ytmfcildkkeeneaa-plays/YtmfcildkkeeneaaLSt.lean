/- A ledger in a law's walk: where it stands, on what disk; its calls; the law's example. -/
import Derived.Test.YtmfcildkkeeneaaLNext
namespace Go.Proofs.Ytmfcildkkeeneaa
open Go Go.RowKit

/-- The law began in world W; now the disk d lies at g, its bytes at h, a ledger of it at a, that tells last. -/
structure Ls (W w : World) (g h a : Nat) (d : D) (last : Int) : Prop where
  st : St W w g h d
  row : Row w a 63 (lc g last d.ops)
  ha : W.heap.size ≤ a
  l0 : 0 ≤ last ∧ last ≤ 4294967295
  bs : By d.bytes
theorem by_work {d : D} (h : By d.bytes) : By (dWork d).bytes := by rw [dWork_bytes]; exact h
theorem by_dapp {d : D} (h : By d.bytes) {b : List Int} (hb : By b) : By (dApp d b).bytes := by
  unfold dApp
  split
  · exact h
  · split
    · exact h
    · exact by_work (d := { d with bytes := d.bytes ++ b }) (by_app h hb)
theorem dSync_bytes (d : D) : (dSync d).bytes = d.bytes := by
  unfold dSync
  split
  · rfl
  · split
    · exact dWork_bytes d
    · exact dWork_bytes d
theorem by_n {d : D} (h : By d.bytes) (last : Int) : By (nD d last).bytes := by
  unfold nD
  split
  · exact h
  · unfold wD
    split
    · rw [dSync_bytes]; exact by_dapp h (rowL_by _ _)
    · exact by_dapp h (rowL_by _ _)
theorem by_crash {d : D} (h : By d.bytes) (p : Int) : By (dCrash d p).bytes := by_take h _
section
variable {W w : World} {g h a : Nat} {d : D} {last : Int}
theorem ls_open (s : St W w g h d) (hb : By d.bytes) (hdd : d.dead = false) (G : Int) (hG : grL d.bytes = G) :
    Calls Try.prog 11 #[.pointer (some ⟨g, 0, none⟩)] w fun e w' => ∃ a, e = .returned (.tuple #[.pointer (some ⟨a, 0, none⟩), .int .i64 0]) ∧ Ls W w' g h a d G ∧ Below w.heap.size w w' ∧ w.heap.size ≤ a := by
  have hr := grL_range hb
  subst hG
  exact (open_any d g h w s.dk s.ok hb hdd).mono fun _ _ ⟨a, he, ha, hr2, hb2⟩ => ⟨a, he, ⟨s.later hb2, hr2, Nat.le_trans s.below.size ha, by omega, hb⟩, hb2, ha⟩
theorem ls_next (s : Ls W w g h a d last) (ho : d.ops < 999990) (E V last' : Int) (d' : D) (hE : nE d last = E) (hd' : nD d last = d') (hV : V = if E = 0 then last + 1 else 0) (hla : last' = if E = 0 then last + 1 else last) :
    Calls Try.prog 13 #[.pointer (some ⟨a, 0, none⟩)] w fun e w' => e = .returned (.tuple #[.int .i64 V, .int .i64 E]) ∧ ∃ h', Ls W w' g h' a d' last' := by
  have hm : E = 0 → last ≠ 4294967295 := fun h0 hm => by rw [h0, nE, if_pos hm] at hE; cases hE
  refine (next_any d last d.ops a g h w s.row s.st.dk s.st.ok ho rfl s.l0.1 s.l0.2 E V last' d'.ops d' hE hd' hV hla rfl).mono fun _ _ ⟨he, h', hD, hR, hF, hor⟩ => ⟨he, h', ?_⟩
  have hs := s.st.below.size
  refine ⟨⟨hD, by rw [← hd']; exact ok_n s.st.ok ho last, s.st.below.trans (hF.below (fun k hk => ?_) hs), s.st.hg, ?_⟩, hR, s.ha, ?_, by rw [← hd']; exact by_n s.bs last⟩
  · simp only [List.mem_cons, List.not_mem_nil, or_false] at hk
    rcases hk with rfl | rfl | rfl
    · exact s.st.hg
    · exact s.st.hh
    · exact s.ha
  · rcases hor with rfl | h1
    · exact s.st.hh
    · omega
  · have := s.l0
    by_cases h0 : E = 0
    · have := hm h0
      rw [hla, if_pos h0]; omega
    · rw [hla, if_neg h0]; exact s.l0
theorem Ls.later {w' : World} (s : Ls W w g h a d last) (hb : Below w.heap.size w w') : Ls W w' g h a d last :=
  ⟨s.st.later hb, s.row.below hb s.row.lt, s.ha, s.l0, s.bs⟩
theorem ls_last (s : Ls W w g h a d last) :
    Calls Try.prog 21 #[.pointer (some ⟨a, 0, none⟩)] w fun e w' => e = .returned (.int .i64 last) ∧ Ls W w' g h a d last ∧ Below w.heap.size w w' :=
  (last_any d last d.ops a g h w s.row s.st.dk rfl).mono fun _ _ ⟨he, hb⟩ => ⟨he, s.later hb, hb⟩
theorem ls_keep {w' : World} {d' : D} (s : Ls W w g h a d last) (t : St W w' g h d') (hf : Fr [g] w w') (ho : d'.ops = d.ops) (hb : By d'.bytes) : Ls W w' g h a d' last :=
  ⟨t, by rw [ho]; exact s.row.fr hf (by simp; exact (s.st.dk.apart s.row (by decide) (by decide)).1), s.ha, s.l0, hb⟩
theorem ls_stop (s : Ls W w g h a d last) (n : Int) (hn : n ≤ 9223372036854775807) (d' : D) (hd : { d with left := lmax n } = d') :
    Calls Try.prog 15 #[.pointer (some ⟨g, 0, none⟩), .int .i64 n] w fun e w' => e = .returned (.tuple #[]) ∧ Ls W w' g h a d' last := by
  subst hd
  exact (st_stop s.st n hn).mono fun _ _ ⟨he, t, hf⟩ => ⟨he, ls_keep s t hf rfl s.bs⟩
theorem ls_crash (s : Ls W w g h a d last) (p k : Int) (d' : D) (hk : (stay d p : Int) = k) (hd : dCrash d p = d') :
    Calls Try.prog 17 #[.pointer (some ⟨g, 0, none⟩), .int .i64 p] w fun e w' => e = .returned (.int .i64 k) ∧ Ls W w' g h a d' last := by
  subst hd
  exact (st_crash s.st p k _ hk rfl).mono fun _ _ ⟨he, t, hf⟩ => ⟨he, ls_keep s t hf rfl (by_crash s.bs p)⟩
end

/-- Where all is well: what Next does. -/
theorem next_well {d : D} {last : Int} (hdd : d.dead = false) (hl : d.left = 0) (hm : last ≠ 4294967295) (hr : (d.bytes.length : Int) + (lackN d.bytes.length + 8 : Nat) ≤ d.room) :
    nE d last = 0 ∧ nD d last = { d with bytes := padL d.bytes ++ recL (last + 1), syn := (padL d.bytes ++ recL (last + 1)).length, ops := d.ops + 2 } := by
  have h1 : ¬ (((rowL d.bytes (last + 1)).length : Int) > d.room - d.bytes.length) := by rw [rowL_len]; omega
  have e1 : aErr d (rowL d.bytes (last + 1)) = 0 := by simp [aErr, hdd, h1, wErr, hl]
  have e2 : dApp d (rowL d.bytes (last + 1)) = { d with bytes := padL d.bytes ++ recL (last + 1), ops := d.ops + 1 } := by
    rw [← app_row]
    simp [dApp, hdd, h1, dWork, hl]
  have e3 : nE d last = sErr (dApp d (rowL d.bytes (last + 1))) := by rw [nE, if_neg hm, wE, if_pos e1]
  have e4 : nD d last = dSync (dApp d (rowL d.bytes (last + 1))) := by rw [nD, if_neg hm, wD, if_pos e1]
  rw [e3, e4, e2]
  refine ⟨by simp [sErr, hdd, wErr, hl], ?_⟩
  have e5 : d.ops + 1 + 1 = d.ops + 2 := by omega
  simp [dSync, hdd, dWork, hl, e5]
theorem next_full {d : D} {last : Int} (hdd : d.dead = false) (hm : last ≠ 4294967295) (hr : ¬ (d.bytes.length : Int) + (lackN d.bytes.length + 8 : Nat) ≤ d.room) : nE d last = 16 ∧ nD d last = d := by
  have h1 : ((rowL d.bytes (last + 1)).length : Int) > d.room - d.bytes.length := by rw [rowL_len]; omega
  have e1 : aErr d (rowL d.bytes (last + 1)) = 16 := by simp only [aErr, hdd, h1, if_true, if_false, Bool.false_eq_true]
  have e2 : dApp d (rowL d.bytes (last + 1)) = d := by simp only [dApp, hdd, h1, if_true, if_false, Bool.false_eq_true]
  rw [nE, if_neg hm, nD, if_neg hm, wE, wD, e1, e2]
  simp

set_option maxRecDepth 20000 in
set_option maxHeartbeats 1000000 in
theorem known_any (w : World) : Calls Try.prog 7 #[] w fun e w' => e = .returned (.bool true) ∧ Below w.heap.size w w' := by
  have e0 := st_new 100 w w (Below.refl _ _) (by decide)
  have e1 := fun g w1 (s1 : St w w1 g g (dNew 100)) => ls_open s1 (fun x hx => by cases hx) rfl 0 rfl
  have e2 := fun g a w1 (s1 : Ls w w1 g g a (dNew 100) 0) => ls_next s1 (by decide) 0 1 1 ⟨100, recL 1, 8, 0, false, 2⟩ (by kernel_rfl) (by kernel_rfl) rfl rfl
  have e3 := fun g h a w1 (s1 : Ls w w1 g h a ⟨100, recL 1, 8, 0, false, 2⟩ 1) => ls_next s1 (by decide) 0 2 2 ⟨100, recL 1 ++ recL 2, 16, 0, false, 4⟩ (by kernel_rfl) (by kernel_rfl) rfl rfl
  generalize (⟨100, recL 1, 8, 0, false, 2⟩ : D) = d1 at *
  generalize (⟨100, recL 1 ++ recL 2, 16, 0, false, 4⟩ : D) = d2 at *
  generalize dNew 100 = d0 at *
  go_enter Try.func7, Try.ntmps7
  go_wp2_with (first | (go_at_call 9; (with_reducible refine Calls.mono e0 ?_); rintro e w1 ⟨g, rfl, s1⟩) | (go_at_call 11; (with_reducible refine Calls.mono (e1 _ _ s1) ?_); rintro e w2 ⟨a, rfl, s2, _, _⟩; have k2 := e2 _ _ _ s2) | (go_at_call 13; (with_reducible refine Calls.mono k2 ?_); rintro e w3 ⟨rfl, h3, s3⟩; clear k2) | (go_at_call 13; (with_reducible refine Calls.mono (e3 _ _ _ _ s3) ?_); rintro e w4 ⟨rfl, h4, s4⟩; have k4 := ls_last s4) | (go_at_call 21; (with_reducible refine Calls.mono k4 ?_); rintro e w5 ⟨rfl, s5, hb5⟩))
  go_ret
  exact ⟨rfl, s5.st.below⟩
end Go.Proofs.Ytmfcildkkeeneaa
