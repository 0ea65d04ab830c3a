/- The reference's ParseInode: any bytes. No old memory turns. -/
import Derived.Test.YtgcffdnbihfghaaRInode
import Derived.Laws.ResultCell
namespace Go.Proofs.Ytgcffdnbihfghaa
open Go Go.RowKit
def zeroN : Nd := ⟨0, 0, 0, zer 32⟩
/-- The inode that thirty-nine bytes say. -/
def parN (b : List Int) : Nd := ⟨gi b 1, beN ((b.drop 2).take 4) 4, gi b 6, (b.drop 7).take 32⟩
def pErr (b : List Int) : Int := if b.length < 39 then 8 else if gi b 0 ≠ 105 ∨ errN (parN b) ≠ 0 then 11 else if b.length > 39 then 9 else 0
def pNd (b : List Int) : Nd := if pErr b = 0 then parN b else zeroN
theorem pNd_len (b : List Int) : (pNd b).top.length = 32 := by
  unfold pNd
  by_cases h : pErr b = 0
  · rw [if_pos h]
    have : ¬ b.length < 39 := fun h1 => by unfold pErr at h; rw [if_pos h1] at h; exact absurd h (by decide)
    simp [parN]; omega
  · rw [if_neg h]; rfl
/-- What a reader of inodes answers. -/
def Reads (b : List Int) (w : World) (e : Ending) (w' : World) : Prop := e = .returned (.tuple #[.agg (nc (pNd b)), .int .i64 (pErr b)]) ∧ Below w.heap.size w w'
theorem results_row_tmp {P : Program} {fn : Func} {p u : Tmp} {ty : TypeId} (h : fn.results = #[.cell p ty, .tmp u]) (tmps : Array Value) (w : World) (g : Nat) (t : TypeId) (cs : Array Value) (d : TypeDesc)
    (hp : tmps.getD p undef = .pointer (some ⟨g, 0, none⟩)) (hg : Row w g t cs)
    (hu : P.underlying ty = some d) (hd : (match d with | .struct _ | .array _ _ => true | _ => false) = true) (hi : (P.info? ty).map (·.size) = some cs.size) :
    (results fn tmps).run P w = .ok (.tuple #[.agg cs, tmps.getD u undef]) w := by
  rw [results_cell_tmp h, hp]
  simp [asAddr, run_loadVar_row w g t ty cs (0, 0) d hg hu hd hi]
theorem load_rowW {P : Program} {ops : Array Oper} {rest : List Oper} {o : Oper} {a : Act} {w : World} {Q : Exit → Act → World → Prop} (hw : Region.wanted o (yielded ops a.tmps) = true) (ty : TypeId) (x : Operand) (ho : o.op = .load ty x)
    (g : Nat) (hx : a.eval x = .pointer (some ⟨g, 0, none⟩)) (t : TypeId) (cs : Array Value) (fr : Nat × Nat) (d : TypeDesc) (hg : w.heap[g]? = some (.cells cs t fr))
    (hu : P.underlying ty = some d) (hd : (match d with | .struct _ | .array _ _ => true | _ => false) = true) (hi : (P.info? ty).map (·.size) = some cs.size)
    (h : wpList P ops Q rest (a.put o.dst (.agg cs)) w) : wpList P ops Q (o :: rest) a w :=
  BigFrame.wpList_want hw fun _ hK => wp_load_row ty x ho g hx t cs fr d hg hu hd hi (hK _ _ h)
theorem list_map (l : List Int) (n : Nat) (h : l.length = n) : l = (List.range n).map (gi l) := by
  subst h
  apply List.ext_getElem?
  intro i
  by_cases hi : i < l.length
  · simp [gi, hi]
  · rw [List.getElem?_eq_none (by omega), List.getElem?_eq_none (by simp; omega)]
theorem built_inode (x s l : Int) (t : List Int) (ht : t.length = 32) : Try.prog.built 25 [(0, .int .i64 x), (1, .int .i64 s), (2, .int .i64 l), (3, .agg (v8 t))] = some (nc ⟨x, s, l, t⟩) := by
  rw [list_map t 32 ht]
  generalize gi t = f
  kernel_rfl
theorem q_build4 {ops : Array Oper} {ι : Type} {W : ι → World} {Q : Act → Prop} {rest : List Oper} {o : Oper} {a : Act} (x y z t : Operand) (ho : o.op = .build 25 #[(0, x), (1, y), (2, z), (3, t)]) (hgd : Region.wanted o (yielded ops a.tmps) = true)
    (vx vy vz : Int) (vt : List Int) (n : Nd) (hx : a.eval x = .int .i64 vx) (hy : a.eval y = .int .i64 vy) (hz : a.eval z = .int .i64 vz) (ht : a.eval t = .agg (v8 vt)) (hb : Try.prog.built 25 [(0, .int .i64 vx), (1, .int .i64 vy), (2, .int .i64 vz), (3, .agg (v8 vt))] = some (nc n))
    (h : wpQuiet Try.prog ops (fun w' => ∃ i, w' = W i) Q rest (a.put o.dst (.agg (nc n)))) : wpQuiet Try.prog ops (fun w' => ∃ i, w' = W i) Q (o :: rest) a := by
  unfold wpQuiet
  rw [if_pos hgd]
  refine ⟨.agg (nc n), fun w hw => ?_, h⟩
  obtain ⟨i, rfl⟩ := hw
  have hr := run_build (P := Try.prog) (W i) 25 #[(0, .int .i64 vx), (1, .int .i64 vy), (2, .int .i64 vz), (3, .agg (v8 vt))] _ hb
  unfold Oper.quietAt execOp
  simp only [ho, List.map_toArray, List.map_cons, List.map_nil, hx, hy, hz, ht, Sem.run_bind, hr, Result.andThen_ok, Sem.run_pure]
  exact ⟨rfl, rfl⟩
theorem info25 {n : Nd} (h : n.top.length = 32) : (Try.prog.info? 25).map (·.size) = some (nc n).size := by rw [nc_size h]; kernel_rfl
theorem Bytes.sub {w : World} {b o : Nat} {cs : List Int} (h : Bytes w (some ⟨b, o, none⟩) cs) (i n : Nat) : Bytes w (some ⟨b, o + i, none⟩) ((cs.drop i).take n) := (h.drop i).take n
theorem By.sub {cs : List Int} (h : By cs) (i n : Nat) : By ((cs.drop i).take n) := fun x hx => h x (List.mem_of_mem_drop (List.mem_of_mem_take hx))

set_option maxRecDepth 20000 in
set_option maxHeartbeats 1000000 in
theorem rparse_short (b : List Int) (sp : Option Addr) (cap : Nat) (w : World) (hl : b.length < 39) :
    Calls Try.prog 15 #[.slice sp b.length cap] w (Reads b w) := by
  have hE : pErr b = 8 := by unfold pErr; rw [if_pos hl]
  have hN : pNd b = zeroN := by unfold pNd; rw [hE, if_neg (by decide)]
  unfold Reads
  rw [hE, hN]
  generalize b.length = n at *
  have hr := Row.new w 25 (nc zeroN)
  have hb : Below w.heap.size w (w.alloc (.cells (nc zeroN) 25)) := (Below.refl _ _).alloc (Nat.le_refl _) _
  go_enter Try.func15, Try.ntmps15
  go_wp2_with (refine store_row0 25 (.tmp 2) (.tmp 8) (by rfl) (by rfl) (by rfl) w.heap.size (nc zeroN) (by rfl) (by rfl) 25 _ hr (info25 rfl) (by rfl) (nc_one _) ?_)
  exact bodyPost_ret (results_row_tmp Try.results15 _ _ w.heap.size 25 (nc zeroN) _ rfl (hr.setRow _) Try.underlying25 rfl (info25 rfl)) rfl ⟨rfl, below_setRow hb (Nat.le_refl _) _⟩

set_option maxRecDepth 20000 in
set_option maxHeartbeats 1000000 in
theorem rparse_long (b : List Int) (p o cap : Nat) (w : World) (hl : 39 ≤ b.length) (hm : b.length ≤ 1000000) (hc : b.length ≤ cap) (hby : Bytes w (some ⟨p, o, none⟩) b) (hy : By b) :
    Calls Try.prog 15 #[.slice (some ⟨p, o, none⟩) b.length cap] w (Reads b w) := by
  obtain ⟨p', o', e, hcl⟩ := hby (by omega)
  cases e
  have hp : p < w.heap.size := block_lt_of_cell (hcl 0 (by omega))
  have hx0 : w.cell? ⟨p, o, none⟩ = some (.int .u8 (gi b 0)) := hcl 0 (by omega)
  have hx1 := hcl 1 (by omega)
  have hx6 := hcl 6 (by omega)
  have q0 := gi_by hy 0 (by omega)
  have q1 := gi_by hy 1 (by omega)
  have q6 := gi_by hy 6 (by omega)
  have htl : ((b.drop 7).take 32).length = 32 := by simp; omega
  have hsl : ((b.drop 2).take 4).length = 4 := by simp; omega
  have hget := fun wx (h : Bytes wx (some ⟨p, o + 2, none⟩) ((b.drop 2).take 4)) => get_any ((b.drop 2).take 4) p (o + 2) (b.length - 2) (cap - 2) wx h (hy.sub 2 4) hsl (by omega)
  have hid := fun wx (h : Bytes wx (some ⟨p, o + 7, none⟩) ((b.drop 7).take 32)) => id_any ((b.drop 7).take 32) p (o + 7) (b.length - 7) (cap - 7) wx h htl (by omega)
  have hs2 := hby.sub 2 4
  have hs7 := hby.sub 7 32
  have hwr := fun wx => wrong_any (parN b) wx (by unfold parN; exact htl)
  have hbt := built_inode (gi b 1) (beN ((b.drop 2).take 4) 4) (gi b 6) ((b.drop 7).take 32) htl
  have hiN : (Try.prog.info? 25).map (·.size) = some (nc (parN b)).size := info25 htl
  have hnl : (nc zeroN).size = (nc (parN b)).size := by rw [nc_size (n := parN b) htl]; rfl
  have hEd : Hid (pErr b = if gi b 0 ≠ 105 ∨ errN (parN b) ≠ 0 then 11 else if b.length > 39 then 9 else 0) := ⟨by unfold pErr; rw [if_neg (by omega)]⟩
  have hNd : Hid (pNd b = if pErr b = 0 then parN b else zeroN) := ⟨rfl⟩
  unfold Reads
  have hpn : parN b = ⟨gi b 1, beN ((b.drop 2).take 4) 4, gi b 6, (b.drop 7).take 32⟩ := rfl
  rw [← hpn] at hbt
  generalize parN b = n at *
  generalize pErr b = E at *
  generalize pNd b = R at *
  generalize (b.drop 7).take 32 = tp at *
  generalize (b.drop 2).take 4 = sb at *
  generalize beN sb 4 = sz at *
  generalize gi b 0 = x0 at *
  generalize gi b 1 = x1 at *
  generalize gi b 6 = x6 at *
  clear hcl hpn
  generalize b.length = len at *
  have hrz := Row.new w 25 (nc zeroN)
  have hb : Below w.heap.size w (w.alloc (.cells (nc zeroN) 25)) := (Below.refl _ _).alloc (Nat.le_refl _) _
  obtain ⟨g0, hg0⟩ : ∃ g0, w.heap.size = g0 := ⟨_, rfl⟩
  go_enter Try.func15, Try.ntmps15
  go_upto_region 3 with fail
  change Code.wp _ _ _ _ (w.alloc (.cells (nc zeroN) 25))
  rw [hg0] at hrz
  try simp only [hg0]
  have hbp : Below w.heap.size w (w.alloc (.cells (nc zeroN) 25)) := hb
  generalize w.alloc (.cells (nc zeroN) 25) = w1 at *
  refine region_alloc 15 25 (nc zeroN) 4 (by kernel_rfl) (by kernel_rfl) (by rfl) (by kernel_rfl) ?hal ?hh
  case hal =>
    intro a w o ho
    cases ho
    kernel_rfl
  case hh =>
    apply Exists.intro
    refine ⟨fun ι _ W hbW hc => ?_, fun g1 w2 hg1 hbel hrow => ?_⟩
    · have hW : ∀ i, Below w.heap.size w (W i) := fun i => hb.trans ((hbW i).mono hb.size)
      have t1 : ∀ i, (W i).cell? ⟨p, o + 1, none⟩ = some (.int .u8 x1) := fun i => by rw [(hW i).cell (p := ⟨p, o + 1, none⟩) hp]; exact hx1
      have t6 : ∀ i, (W i).cell? ⟨p, o + 6, none⟩ = some (.int .u8 x6) := fun i => by rw [(hW i).cell (p := ⟨p, o + 6, none⟩) hp]; exact hx6
      simp only [List.take_succ_cons, List.take_zero]
      iterate 6 (go_big_quiet_step (fail))
      go_big_quiet_step ((go_at_call 37; exact (hget _ (hs2.below (hW _))).mono (fun e w' ⟨he, hw⟩ => ⟨he, hc _ _ hw⟩)))
      iterate 6 (go_big_quiet_step (fail))
      go_big_quiet_step ((go_at_call 38; exact (hid _ (hs7.below (hW _))).mono (fun e w' ⟨he, hw⟩ => ⟨he, hc _ _ hw⟩)))
      refine q_build4 (.tmp 12) (.tmp 15) (.tmp 19) (.tmp 22) (by rfl) (by rfl) x1 sz x6 tp n (by rfl) (by rfl) (by rfl) (by rfl) hbt ?_
      simp only [Act.put, List.setIfInBounds_toArray, List.set_cons_succ, List.set_cons_zero]
      exact wpQuiet_nil rfl
    · simp only [List.drop_succ_cons, List.drop_zero, Act.put, List.setIfInBounds_toArray, List.set_cons_succ, List.set_cons_zero]
      refine store_row0 25 (.tmp 4) (.tmp 23) (by rfl) (by rfl) (by rfl) g1 (nc n) (by rfl) (by rfl) 25 _ hrow hiN hnl (nc_one _) ?_
      have hg01 : g0 < g1 := by have := hrz.lt; omega

      have hoN : (nc zeroN).size = (nc n).size := hnl
      have hiZ : (Try.prog.info? 25).map (·.size) = some (nc zeroN).size := info25 rfl
      have r0 := (hrz.below hbel hrz.lt).setRowOther (g := g1) (by omega) (nc n)
      have r1 := hrow.setRow (nc n)
      have rb := below_setRow (g := g1) (hb.trans (hbel.mono hb.size)) (by omega) (nc n)
      have c0 : (w2.setRow g1 (nc n)).cell? ⟨p, o, none⟩ = some (.int .u8 x0) := by rw [rb.cell (p := ⟨p, o, none⟩) hp]; exact hx0
      generalize w2.setRow g1 (nc n) = w3 at r0 r1 rb c0 ⊢
      clear hrow hbel hrz hb hbp hget hid hs2 hs7 hby hx0 hx1 hx6 hbt
      have hwr3 := hwr w3
      by_cases h0 : x0 = 105
      · by_cases h1 : errN n = 0
        · by_cases h2 : len > 39
          · obtain rfl : E = 9 := by rw [hEd.out, if_neg (by simp [h0, h1]), if_pos h2]
            obtain rfl : R = zeroN := by rw [hNd.out, if_neg (by decide)]
            rw [h1] at hwr3
            subst h0
            clear hEd hNd
            go_wp2_with (first | (refine load_rowW ?hw 25 (.tmp 4) (by rfl) g1 (by rfl) 25 (nc n) (0, 0) _ r1 Try.underlying25 rfl hiN ?_; (case hw => rfl)) | (go_at_call 33; (with_reducible refine Calls.mono hwr3 ?_); rintro e w4 ⟨rfl, hb4⟩; have z0 := r0.below hb4 r0.lt; have z1 := r1.below hb4 r1.lt; have zb := rb.trans (hb4.mono rb.size)) | (refine store_row0 25 (.tmp 2) (.tmp 37) (by rfl) (by rfl) (by rfl) g0 (nc zeroN) (by rfl) (by rfl) 25 _ z0 hiZ rfl (nc_one _) ?_))
            exact bodyPost_ret (results_row_tmp Try.results15 _ _ g0 25 (nc zeroN) _ rfl (z0.setRow _) Try.underlying25 rfl hiZ) rfl ⟨rfl, below_setRow (by first | exact zb | (rw [← hg0]; exact zb)) (by omega) _⟩
          · obtain rfl : E = 0 := by rw [hEd.out, if_neg (by simp [h0, h1]), if_neg h2]
            obtain rfl : R = n := by rw [hNd.out, if_pos rfl]
            rw [h1] at hwr3
            subst h0
            clear hEd hNd
            go_wp2_with (first | (refine load_rowW ?hw 25 (.tmp 4) (by rfl) g1 (by rfl) 25 (nc R) (0, 0) _ r1 Try.underlying25 rfl hiN ?_; (case hw => rfl)) | (go_at_call 33; (with_reducible refine Calls.mono hwr3 ?_); rintro e w4 ⟨rfl, hb4⟩; have z0 := r0.below hb4 r0.lt; have z1 := r1.below hb4 r1.lt; have zb := rb.trans (hb4.mono rb.size)) | (refine wpList_load_row (by rfl) 25 (.tmp 4) (by rfl) g1 (by rfl) 25 (nc R) (0, 0) _ z1 Try.underlying25 rfl hiN ?_) | (refine store_row0 25 (.tmp 2) (.tmp 38) (by rfl) (by rfl) (by rfl) g0 (nc R) (by rfl) (by rfl) 25 _ z0 hiN hoN (nc_one _) ?_))
            exact bodyPost_ret (results_row_tmp Try.results15 _ _ g0 25 (nc R) _ rfl (z0.setRow _) Try.underlying25 rfl hiN) rfl ⟨rfl, below_setRow (by first | exact zb | (rw [← hg0]; exact zb)) (by omega) _⟩
        · obtain rfl : E = 11 := by rw [hEd.out, if_pos (.inr h1)]
          obtain rfl : R = zeroN := by rw [hNd.out, if_neg (by decide)]
          subst h0
          clear hEd hNd
          have h1b : (errN n != 0) = true := by simpa using h1
          generalize errN n = en at *
          go_wp2_with (first | (refine load_rowW ?hw 25 (.tmp 4) (by rfl) g1 (by rfl) 25 (nc n) (0, 0) _ r1 Try.underlying25 rfl hiN ?_; (case hw => rfl)) | (go_at_call 33; (with_reducible refine Calls.mono hwr3 ?_); rintro e w4 ⟨rfl, hb4⟩; have z0 := r0.below hb4 r0.lt; have z1 := r1.below hb4 r1.lt; have zb := rb.trans (hb4.mono rb.size)) | (refine store_row0 25 (.tmp 2) (.tmp 33) (by rfl) (by rfl) (by rfl) g0 (nc zeroN) (by rfl) (by rfl) 25 _ z0 hiZ rfl (nc_one _) ?_))
          exact bodyPost_ret (results_row_tmp Try.results15 _ _ g0 25 (nc zeroN) _ rfl (z0.setRow _) Try.underlying25 rfl hiZ) rfl ⟨rfl, below_setRow (by first | exact zb | (rw [← hg0]; exact zb)) (by omega) _⟩
      · obtain rfl : E = 11 := by rw [hEd.out, if_pos (.inl h0)]
        obtain rfl : R = zeroN := by rw [hNd.out, if_neg (by decide)]
        clear hEd hNd
        have h0b : (x0 != 105) = true := by simpa using h0
        go_wp2_with (refine store_row0 25 (.tmp 2) (.tmp 33) (by rfl) (by rfl) (by rfl) g0 (nc zeroN) (by rfl) (by rfl) 25 _ r0 hiZ rfl (nc_one _) ?_)
        exact bodyPost_ret (results_row_tmp Try.results15 _ _ g0 25 (nc zeroN) _ rfl (r0.setRow _) Try.underlying25 rfl hiZ) rfl ⟨rfl, below_setRow (by first | exact rb | (rw [← hg0]; exact rb)) (by omega) _⟩
theorem rparse_any (b : List Int) (sp : Option Addr) (cap : Nat) (w : World) (hm : b.length ≤ 1000000) (hc : b.length ≤ cap) (hby : Bytes w sp b) (hy : By b) :
    Calls Try.prog 15 #[.slice sp b.length cap] w (Reads b w) := by
  by_cases hl : b.length < 39
  · exact rparse_short b sp cap w hl
  · obtain ⟨p, o, rfl, _⟩ := hby (by omega)
    exact rparse_long b p o cap w (by omega) hm hc hby hy
end Go.Proofs.Ytgcffdnbihfghaa
