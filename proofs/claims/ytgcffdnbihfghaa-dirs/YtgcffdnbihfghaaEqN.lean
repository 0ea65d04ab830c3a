/- '==' of two inodes that are one, by value; the four rows that bend makes, one by one. No condition. -/
import Derived.Test.YtgcffdnbihfghaaInoL
import Derived.Laws.StructEq
namespace Go.Proofs.Ytgcffdnbihfghaa
open Go Go.RowKit
theorem fields25 : (Try.prog.fieldsOf 25).toList = [{ name := "Kind", type := 3, offset := 0, embedded := false, tag := "", pkgPath := "", byteOffset := 0 }, { name := "Size", type := 3, offset := 1, embedded := false, tag := "", pkgPath := "", byteOffset := 8 }, { name := "Levels", type := 3, offset := 2, embedded := false, tag := "", pkgPath := "", byteOffset := 16 }, { name := "Top", type := 23, offset := 3, embedded := false, tag := "", pkgPath := "", byteOffset := 24 }] := by kernel_rfl
theorem part_int {vs : Array Value} {k : Nat} {x : Int} (w : World) (h : vs[k]? = some (.int .i64 x)) : (part 3 vs k).run Try.prog w = .ok (.int .i64 x) w := by
  simp [part, isAgg, run_underlying Try.underlying3, h, Sem.run_bind]
theorem part_top {n : Nd} (w : World) (h : n.top.length = 32) : (part 23 (nc n) 3).run Try.prog w = .ok (.agg (v8 n.top)) w := by
  obtain ⟨inf, hinf, h1⟩ : ∃ inf, Try.prog.info? 23 = some inf ∧ inf.size = 32 := by
    have : (Try.prog.info? 23).map (·.size) = some 32 := by kernel_rfl
    cases hq : Try.prog.info? 23 with
    | none => simp [hq] at this
    | some i => exact ⟨i, rfl, by simpa [hq] using this⟩
  have e : (nc n).extract 3 (3 + 32) = v8 n.top := by
    have : (n.top.map (Value.int .u8)).length = 32 := by simpa using h
    simp [nc, v8, List.extract_eq_take_drop, List.take_of_length_le (Nat.le_of_eq this)]
  simp [part, isAgg, run_underlying Try.underlying23, Sem.run_bind, sizeOf, typeInfo, hinf, h1, e]
theorem eqf_cons {P : Program} {d : Nat} {xs ys : Array Value} {f : Field} {fs : List Field} {w : World} {a b : Value} (hn : f.name ≠ "_") (h1 : (part f.type xs f.offset).run P w = .ok a w) (h2 : (part f.type ys f.offset).run P w = .ok b w) (h3 : (Op.equalIn d f.type a b).run P w = .ok true w) :
    (Op.eqFields d xs ys (f :: fs)).run P w = (Op.eqFields d xs ys fs).run P w := by
  conv => lhs; unfold Op.eqFields
  rw [if_pos hn]
  simp only [Sem.run_bind, h1, h2, h3, Result.andThen_ok, Bool.not_true, Bool.false_eq_true, if_false]
theorem eqf_inode (n : Nd) (h : n.top.length = 32) (w : World) : (Op.eqFields 9999 (nc n) (nc n) (Try.prog.fieldsOf 25).toList).run Try.prog w = .ok true w := by
  rw [fields25]
  have q3 : ∀ x : Int, (Op.equalIn 9999 3 (.int .i64 x) (.int .i64 x)).run Try.prog w = .ok true w := fun x => by
    have := run_equalIn_int (P := Try.prog) w 9998 3 .i64 .i64 x x Try.underlying3
    rwa [BEq.rfl] at this
  have q23 : (Op.equalIn 9999 23 (.agg (v8 n.top)) (.agg (v8 n.top))).run Try.prog w = .ok true w := by
    have := run_eq_array (P := Try.prog) w 9997 23 5 32 n.top n.top Try.underlying23 Try.underlying5 (by kernel_rfl) h h
    rwa [decide_eq_true rfl] at this
  have nn0 : "Kind" ≠ "_" := by simp
  have nn1 : "Size" ≠ "_" := by simp
  have nn2 : "Levels" ≠ "_" := by simp
  have nn3 : "Top" ≠ "_" := by simp
  have s0 := eqf_cons (P := Try.prog) (d := 9999) (xs := nc n) (ys := nc n) (f := { name := "Kind", type := 3, offset := 0, embedded := false, tag := "", pkgPath := "", byteOffset := 0 }) (fs := [{ name := "Size", type := 3, offset := 1, embedded := false, tag := "", pkgPath := "", byteOffset := 8 }, { name := "Levels", type := 3, offset := 2, embedded := false, tag := "", pkgPath := "", byteOffset := 16 }, { name := "Top", type := 23, offset := 3, embedded := false, tag := "", pkgPath := "", byteOffset := 24 }]) (w := w) (a := .int .i64 n.kind) (b := .int .i64 n.kind) nn0 (part_int w (nc0 n)) (part_int w (nc0 n)) (q3 n.kind)
  have s1 := eqf_cons (P := Try.prog) (d := 9999) (xs := nc n) (ys := nc n) (f := { name := "Size", type := 3, offset := 1, embedded := false, tag := "", pkgPath := "", byteOffset := 8 }) (fs := [{ name := "Levels", type := 3, offset := 2, embedded := false, tag := "", pkgPath := "", byteOffset := 16 }, { name := "Top", type := 23, offset := 3, embedded := false, tag := "", pkgPath := "", byteOffset := 24 }]) (w := w) (a := .int .i64 n.size) (b := .int .i64 n.size) nn1 (part_int w (nc1 n)) (part_int w (nc1 n)) (q3 n.size)
  have s2 := eqf_cons (P := Try.prog) (d := 9999) (xs := nc n) (ys := nc n) (f := { name := "Levels", type := 3, offset := 2, embedded := false, tag := "", pkgPath := "", byteOffset := 16 }) (fs := [{ name := "Top", type := 23, offset := 3, embedded := false, tag := "", pkgPath := "", byteOffset := 24 }]) (w := w) (a := .int .i64 n.levels) (b := .int .i64 n.levels) nn2 (part_int w (nc2 n)) (part_int w (nc2 n)) (q3 n.levels)
  have s3 := eqf_cons (P := Try.prog) (d := 9999) (xs := nc n) (ys := nc n) (f := { name := "Top", type := 23, offset := 3, embedded := false, tag := "", pkgPath := "", byteOffset := 24 }) (fs := []) (w := w) (a := .agg (v8 n.top)) (b := .agg (v8 n.top)) nn3 (part_top w h) (part_top w h) (q23)
  exact s0.trans (s1.trans (s2.trans (s3.trans rfl)))
theorem eq_inode (n : Nd) (h : n.top.length = 32) (w : World) : (Op.equalIn 10000 25 (.agg (nc n)) (.agg (nc n))).run Try.prog w = .ok true w := by
  rw [run_equalIn_struct w 9999 25 _ _ (by kernel_rfl) (by kernel_rfl)]
  exact eqf_inode n h w
/-- A row of those four. -/
theorem Bent.at {w : World} {pr pb : Option Addr} {nr cr nb cb : Nat} {raw b : List Int} {e : Ending} {w' : World} {G : Nat} {X Y : List Int} {px py : Option Addr} {cx cy : Nat}
    (h : Bent w pr pb nr cr nb cb raw b e w' G X Y px py cx cy) (hb : Bytes w pb b) (hnb : b.length = nb) (kb : nb ≤ cb) (yb : By b) (hr : Bytes w pr raw) (hnr : raw.length = nr) (kr : nr ≤ cr) (yr : By raw) (hl : nb + nr ≤ 1000000) (i : Nat) (hi : i < 4) :
    ∃ (sp : Option Addr) (cap : Nat) (Z : List Int), w'.cell? ⟨G, i, none⟩ = some (.slice sp Z.length cap) ∧ Bytes w' sp Z ∧ By Z ∧ Z.length ≤ 1000000 ∧ Z.length ≤ cap ∧ (i = 3 → Z = b) := by
  have hc := fun j => h.row.cell (j := j)
  rcases (by omega : i = 0 ∨ i = 1 ∨ i = 2 ∨ i = 3) with rfl | rfl | rfl | rfl
  · exact ⟨px, cx, X, hc 0, h.bx, h.yx, by have := h.lx; omega, h.kx, fun h => by omega⟩
  · exact ⟨py, cy, Y, hc 1, h.bY, h.yy, by have := h.ly; omega, h.ky, fun h => by omega⟩
  · subst hnr; exact ⟨pr, cr, raw, hc 2, hr.below h.below, yr, by omega, kr, fun h => by omega⟩
  · subst hnb; exact ⟨pb, cb, b, hc 3, hb.below h.below, yb, by omega, kb, fun _ => rfl⟩
/-- An inode's bytes say it. -/
theorem pNd_enc {n : Nd} (h : errN n = 0) (ht : n.top.length = 32) (hb : By n.top) : pNd (encN n) = n ∧ pErr (encN n) = 0 := by
  have hl := encN_len ht
  have hk := errN_kind (n := n) (by rw [h]; decide)
  have hok : okN n = true := by
    unfold errN at h
    by_cases h0 : n.kind ≠ 1 ∧ n.kind ≠ 2
    · rw [if_pos h0] at h; exact absurd h (by decide)
    · rw [if_neg h0] at h
      by_cases h1 : okN n = true
      · exact h1
      · rw [if_neg h1] at h; exact absurd h (by decide)
  obtain ⟨hv, hs0, hs1⟩ := okN_levels hok
  have e : parN (encN n) = n := by
    obtain ⟨kd, s, lv, tp⟩ := n
    have e1 : (encN ⟨kd, s, lv, tp⟩) = 105 :: kd :: (n4 s ++ lv :: tp) := by simp [encN]
    have e2 : ((encN ⟨kd, s, lv, tp⟩).drop 2).take 4 = n4 s := by rw [e1]; simp [n4]
    have e3 : ((encN ⟨kd, s, lv, tp⟩).drop 7).take 32 = tp := by
      rw [e1]; simp only at ht; simp [n4, List.take_of_length_le (Nat.le_of_eq ht)]
    have e4 : gi (encN ⟨kd, s, lv, tp⟩) 1 = kd := by rw [e1]; rfl
    have e5 : gi (encN ⟨kd, s, lv, tp⟩) 6 = lv := by rw [e1]; rfl
    have e6 : beN (n4 s) 4 = s := by
      rw [beN_four]
      show s / 16777216 % 256 * 16777216 + s / 65536 % 256 * 65536 + s / 256 % 256 * 256 + s % 256 = s
      simp only at hs0 hs1
      omega
    unfold parN
    rw [e2, e3, e4, e5, e6]
  have e0 : gi (encN n) 0 = 105 := rfl
  have hE : pErr (encN n) = 0 := by
    unfold pErr
    rw [if_neg (by omega), if_neg (by rw [e, h, e0]; simp), if_neg (by omega)]
  exact ⟨by unfold pNd; rw [hE, if_pos rfl, e], hE⟩
end Go.Proofs.Ytgcffdnbihfghaa
