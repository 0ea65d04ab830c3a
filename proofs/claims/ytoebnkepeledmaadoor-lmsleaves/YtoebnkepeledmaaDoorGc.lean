/- Laid tables, words, appends, pads, plain lists of ots. -/
import Derived.Test.YtoebnkepeledmaaDoorRows
import Derived.Test.YtoebnkepeledmaaDoorSumx
import Derived.ProofKit
import Derived.LaidMore
import Derived.OpenShut
import Derived.Stop.Joined
import Derived.Lib.LaidTab
import Derived.Test.YtoebnkepeledmaaDoorGa
import Derived.Laws.AppendOwn
import Derived.Laws.AppendOwnNone
namespace Go.Proofs.YtoebnkepeledmaaDoor

section
open Go.ChangeShapes Go.WideShapes Go.ChangeAt Go.RowKit

theorem own : ownKnob Tryd.prog.godebug = none := by kernel_rfl
theorem laidOut : laidOutB Tryd.prog = true := by kernel_rfl
theorem g0 : Tryd.prog.globalNamed "lattice/sha.firstState" = some 0 := by kernel_rfl
theorem g1 : Tryd.prog.globalNamed "lattice/sha.roundWords" = some 1 := by kernel_rfl
theorem t0 : (Tryd.prog.globals[0]?).map (·.type) = some 111 := by kernel_rfl
theorem t1 : (Tryd.prog.globals[1]?).map (·.type) = some 98 := by kernel_rfl
def laid2 : List (String × DataW Unit) := [("lattice/sha.firstState", Rows.laid_lattice_sha_firstState), ("lattice/sha.roundWords", Rows.laid_lattice_sha_roundWords)]

theorem grow_of_var {W : World} {n : String} {g : Nat} {cs : Array Value} (hg : Tryd.prog.globalNamed n = some g) (hv : W.var? Tryd.prog n = some cs) : GRow W g cs := by
  unfold World.var? at hv
  rw [hg] at hv
  simp only [Option.bind_some] at hv
  split at hv
  · rename_i c t fr h
    cases hv
    exact ⟨t, fr, h⟩
  · cases hv

theorem of_laid {W : World} (h : laidMetH Tryd.prog laid2 W) : Laid W := by
  rw [MakeChecks.laidMetH_plain _ _ _ (by kernel_rfl)] at h
  obtain ⟨ps, ⟨a0, b0, cs0, f0, p0, q0, hg0, ht0, hv0, hd0, ⟨a1, b1, cs1, f1, p1, q1, hg1, ht1, hv1, hd1, _, _⟩, _⟩, _, _⟩ := h
  obtain rfl := Option.some.inj (g0.symm.trans hg0)
  obtain rfl := Option.some.inj (g1.symm.trans hg1)
  obtain rfl := Option.some.inj (t0.symm.trans ht0)
  obtain rfl := Option.some.inj (t1.symm.trans ht1)
  have e0 := Lib.cells_of_tab (k := .u32) (zs := [s0.a, s0.b, s0.c, s0.d, s0.e, s0.f, s0.g, s0.h]) Tryd.underlying111 Tryd.underlying68 (by kernel_rfl) (by kernel_rfl) hd0
  have e1 := Lib.cells_of_tab (k := .u32) (zs := kWords) Tryd.underlying98 Tryd.underlying68 (by kernel_rfl) (by kernel_rfl) hd1
  have r0 := grow_of_var hg0 hv0
  have r1 := grow_of_var hg1 hv1
  obtain ⟨l0⟩ := cs0
  obtain ⟨l1⟩ := cs1
  simp only at e0 e1
  subst e0; subst e1
  exact ⟨r0, r1⟩

theorem door_met (os : Os) (args : Array Value) : laidMetH Tryd.prog laid2 ((World.doorLaid Tryd.prog 400 os).forCall (fun _ _ => 0) ⟨#[], args, []⟩).memory :=
  laidMetH_of_parts3 (fuel := 8) (laidMet_of_run' 8 (by kernel_rfl) (by kernel_rfl)) (by kernel_rfl) (by kernel_rfl)
end

section
open Go.RowKit

theorem kWords_length : kWords.length = 64 := rfl
theorem info43 {l : List Int} (h : l.length = 64) : (Tryd.prog.info? 98).map (·.size) = some (v32 l).size := by rw [v32_size, h]; kernel_rfl

set_option maxRecDepth 20000 in
set_option maxHeartbeats 1000000 in
theorem words_any (w : World) :
    Calls Tryd.prog 60 #[] w fun e w' => e = .returned (.agg (v32 kWords)) ∧ Below w.heap.size w w' := by
  have hold : (v32 zeros64).size = (v32 kWords).size := by rw [v32_size, v32_size]; rfl
  go_enter Tryd.func60, Tryd.ntmps60
  go_wp2_with (refine store_row0 98 (.tmp 0) (.tmp 1) (by rfl) (by rfl) (by rfl) w.heap.size (v32 kWords) (by rfl) (by rfl) 98 (v32 zeros64) (Row.new w 98 _) (info43 kWords_length) hold (v32_one _) ?_)
  exact bodyPost_ret (results_cell_row Tryd.results60 _ _ w.heap.size 98 (v32 kWords) (0, 0) _ rfl ((Row.new w 98 (v32 zeros64)).setRow _) Tryd.underlying98 rfl (info43 kWords_length)) rfl ⟨rfl, below_setRow ((Below.refl _ _).alloc (Nat.le_refl _) _) (Nat.le_refl _) _⟩
end

section
open Go Go.RowKit

/-- The slice value v is the call's own, from block B on, and holds the bytes l. -/
def Own8 (w : World) (B : Nat) (e : TypeId) (v : Value) (l : List Int) : Prop := w.ownsRow B e 1 v l.length (l.map (Value.int .u8))

theorem Own8.form {w : World} {B : Nat} {e : TypeId} {v : Value} {l : List Int} (h : Own8 w B e v l) : ∃ sp cap, v = .slice sp l.length cap := by
  obtain ⟨_, h⟩ := h
  rcases h with ⟨rfl, h0⟩ | ⟨g, cap, cur, rfl, _⟩
  · exact ⟨none, 0, by rw [h0]⟩
  · exact ⟨_, _, rfl⟩

theorem Own8.bytes {w : World} {B : Nat} {e : TypeId} {sp : Option Addr} {n cap : Nat} {l : List Int} (h : Own8 w B e (.slice sp n cap) l) : Bytes w sp l := fun hp => by
  obtain ⟨hl, h⟩ := h
  rcases h with ⟨_, h0⟩ | ⟨g, cap', cur, hv, hg, hh, hn, hc, hs, ht⟩
  · omega
  · injection hv with e1 e2 e3
    subst e1
    refine ⟨g, 0, rfl, fun j hj => ?_⟩
    rw [Nat.zero_add, cell_of_row w g j cur e (0, 0) hh]
    have h1 : (l.map (Value.int .u8))[j]? = some (.int .u8 (gi l j)) := by simp [gi, hj]
    rw [← ht, List.getElem?_take_of_lt (by omega)] at h1
    simpa using h1

theorem Own8.below {w w' : World} {B B' : Nat} {e : TypeId} {v : Value} {l : List Int} (h : Own8 w B e v l) (hb : Below B' w w') (hB : w.heap.size ≤ B') : Own8 w' B e v l := by
  obtain ⟨hl, h⟩ := h
  refine ⟨hl, ?_⟩
  rcases h with h | ⟨g, cap', cur, hv, hg, hh, r⟩
  · exact .inl h
  · refine .inr ⟨g, cap', cur, hv, hg, ?_, r⟩
    have hlt : g < w.heap.size := by
      by_cases hx : g < w.heap.size
      · exact hx
      · rw [Array.getElem?_eq_none (by omega)] at hh; cases hh
    rw [hb.block g (by omega)]; exact hh

theorem append8 {P : Program} {w : World} {ops : Array Oper} {rest : List Oper} {o : Oper} {a : Act} {Q : Exit → Act → World → Prop} (s x : Operand) (t e : TypeId)
    (ho : o.op = .call { callee := .builtin .append, args := #[s, x], argTypes := #[t, t] }) (hgd : o.guard = none)
    (B : Nat) (ht : P.underlying t = some (.slice e)) (hinfo : (P.info? e).map (fun i => (i.zero, i.size, i.bytes)) = some (some (.int .u8 0), 1, 1))
    (v : Value) (l : List Int) (hs : a.eval s = v) (hown : Own8 w B e v l) (sp : Option Addr) (m c : Nat) (cs : List Int) (hx : a.eval x = .slice sp m c) (hm : cs.length = m) (hnil : sp = none → c = 0 ∧ m = 0) (hby : Bytes w sp cs)
    (hlen : l.length + m ≤ 70368744177664) (hB : B ≤ w.heap.size)
    (h : ∀ sp' cap' w', Own8 w' B e (.slice sp' (l ++ cs).length cap') (l ++ cs) → Below B w w' → wpList P ops Q rest (a.put o.dst (.slice sp' (l ++ cs).length cap')) w') : wpList P ops Q (o :: rest) a w := by
  obtain ⟨i, hi, hz, h1, h2⟩ : ∃ i, P.info? e = some i ∧ i.zero = some (.int .u8 0) ∧ i.size = 1 ∧ i.bytes = 1 := by
    cases hq : P.info? e with
    | none => simp [hq] at hinfo
    | some i => simp [hq] at hinfo; exact ⟨i, rfl, hinfo.1, hinfo.2.1, hinfo.2.2⟩
  have hblk : ∀ k, v.ownBlock = some k → B ≤ k := fun k hk => by
    obtain ⟨_, hr⟩ := hown
    rcases hr with ⟨rfl, _⟩ | ⟨g, cap, cur, rfl, hg, _⟩
    · cases hk
    · cases hk; exact hg
  have key : ∀ v' w', w'.ownsRow B e 1 v' (l.length + m) (l.map (Value.int .u8) ++ cs.map (Value.int .u8)) → w.grownBy w' v.ownBlock → wpList P ops Q rest (a.put o.dst v') w' := fun v' w' ho' hg' => by
    have hO : Own8 w' B e v' (l ++ cs) := by
      unfold Own8
      rw [List.length_append, List.map_append, hm]; exact ho'
    obtain ⟨sp', cap', rfl⟩ := hO.form
    exact h sp' cap' w' hO ((Below.refl B w).grown hg' hB hblk)
  cases sp with
  | none =>
    obtain ⟨rfl, rfl⟩ := hnil rfl
    obtain rfl : cs = [] := List.eq_nil_of_length_eq_zero hm
    refine wpList_append_own_none hgd s x t ho B e i 1 ht hi v l.length (l.map (Value.int .u8)) hs hown hx ?_
    refine key v w ?_ ⟨rfl, rfl, rfl, Nat.le_refl _, fun _ _ _ => rfl⟩
    unfold Own8 at hown; simpa using hown
  | some ad =>
    refine wpList_append_own w hgd s x t ho B e i (.int .u8 0) 1 1 ht hi hz h1 h2 rfl (by decide) v l.length (l.map (Value.int .u8)) hs hown ad m c (cs.map (Value.int .u8)) hx (by simp [hm]) (fun j u hu => ?_) (fun u hu => ?_) (by unfold maxLen; omega) (by omega) hB (fun v' w' h2 h3 _ => key v' w' h2 h3)
    · have hj : j < cs.length := by have := (List.getElem?_eq_some_iff.1 hu).1; simpa using this
      obtain ⟨b, ob, eb, hc⟩ := hby (by omega)
      cases eb
      rw [Addr.add_mid, hc j hj, ← hu]; simp [gi, hj]
    · obtain ⟨y, _, rfl⟩ := List.mem_map.1 hu; rfl
end

section
open Go

def padZ (n : Nat) : Nat := (119 - n % 64) % 64
def lenTail (L : Int) : Nat → List Int
  | 0 => []
  | k + 1 => lenTail L k ++ [lenB L (7 - k)]
def padL (bs : List Int) : List Int := bs ++ [128] ++ List.replicate (padZ bs.length) 0 ++ lenTail (bs.length * 8) 8
theorem lenTail_length (L : Int) : ∀ k, (lenTail L k).length = k
  | 0 => rfl
  | k + 1 => by rw [lenTail, List.length_append, lenTail_length L k]; rfl
theorem eq_of_gi {l l' : List Int} (hl : l.length = l'.length) (h : ∀ j, j < l.length → gi l j = gi l' j) : l = l' := by
  apply List.ext_getElem hl
  intro j h1 h2
  have := h j h1
  simpa [gi, h1, h2] using this
theorem gi_app_l {x : List Int} (y : List Int) {j : Nat} (h : j < x.length) : gi (x ++ y) j = gi x j := by unfold gi; rw [List.getD_eq_getElem?_getD, List.getD_eq_getElem?_getD, List.getElem?_append_left h]
theorem gi_app_r {x : List Int} (y : List Int) {j : Nat} (h : x.length ≤ j) : gi (x ++ y) j = gi y (j - x.length) := by simp [gi, List.getElem?_append_right h]
theorem gi_rep (n : Nat) (j : Nat) : gi (List.replicate n 0) j = 0 := by
  by_cases h : j < n
  · simp [gi, h]
  · simp [gi, h]
theorem gi_setS (l : List Int) (i : Nat) (v : Int) (h : i < l.length) : gi (l.set i v) i = v := by simp [gi, h]
theorem gi_setN (l : List Int) (i j : Nat) (v : Int) (h : i ≠ j) : gi (l.set i v) j = gi l j := by simp [gi, List.getElem?_set_ne h]
theorem gi_lenTail (L : Int) : ∀ k m, m < k → gi (lenTail L k) m = lenB L (7 - m)
  | 0, m, h => by omega
  | k + 1, m, h => by
    rw [lenTail]
    by_cases e : m = k
    · subst e; rw [gi_app_r _ (by rw [lenTail_length]; omega), lenTail_length]; simp [gi]
    · rw [gi_app_l _ (by rw [lenTail_length]; omega)]; exact gi_lenTail L k m (by omega)
theorem gi_endBase (rs : List Int) (h : rs.length < 128) (j : Nat) : gi (endBase rs) j = if j < rs.length then gi rs j else if j = rs.length then 128 else 0 := by
  have hl : (spl zeros128 0 rs).length = 128 := by rw [spl_length _ _ _ (by simp [zeros128]; omega)]; simp [zeros128]
  unfold endBase
  by_cases e : j = rs.length
  · subst e; rw [gi_setS _ _ _ (by omega), if_neg (by omega), if_pos rfl]
  · rw [gi_setN _ _ _ _ (by omega)]
    have es : spl zeros128 0 rs = rs ++ zeros128.drop rs.length := by simp [spl]
    rw [es]
    by_cases hj : j < rs.length
    · rw [gi_app_l _ hj, if_pos hj]
    · rw [gi_app_r _ (by omega), if_neg hj, if_neg e]
      unfold zeros128; rw [List.drop_replicate, gi_rep]
theorem gi_endN (rs : List Int) (n : Nat) (L : Int) (h : rs.length < 128) (hn : n ≤ 128) (h8 : 8 ≤ n) : ∀ i, i ≤ 8 → ∀ j, gi (endN rs n L i) j = if n - i ≤ j ∧ j < n then lenB L (n - 1 - j) else gi (endBase rs) j
  | 0, _, j => by rw [if_neg (by omega)]; rfl
  | i + 1, hi, j => by
    have hl := endN_length rs n L (by omega) i
    rw [endN]
    by_cases e : n - 1 - i = j
    · subst e; rw [gi_setS _ _ _ (by omega), if_pos (by omega), show n - 1 - (n - 1 - i) = i by omega]
    · rw [gi_setN _ _ _ _ e, gi_endN rs n L h hn h8 i (by omega) j]
      by_cases h1 : n - i ≤ j ∧ j < n
      · rw [if_pos h1, if_pos (by omega)]
      · rw [if_neg h1, if_neg (by omega)]
theorem end_pad (rs : List Int) (n z : Nat) (L : Int) (hn : n ≤ 128) (hz : rs.length + 1 + z + 8 = n) : (endS rs n L).take n = rs ++ [128] ++ List.replicate z 0 ++ lenTail L 8 := by
  have hl : (endS rs n L).length = 128 := endN_length rs n L (by omega) 8
  refine eq_of_gi (by simp [hl, lenTail_length]; omega) (fun j hj => ?_)
  have hjn : j < n := by simp [hl] at hj; omega
  rw [show gi ((endS rs n L).take n) j = gi (endS rs n L) j by simp [gi, hjn]]
  unfold endS
  rw [gi_endN rs n L (by omega) hn (by omega) 8 (by omega) j, gi_endBase rs (by omega) j]
  have l1 : (rs ++ [128]).length = rs.length + 1 := by simp
  have l2 : (rs ++ [128] ++ List.replicate z 0).length = rs.length + 1 + z := by simp; omega
  by_cases h1 : n - 8 ≤ j
  · rw [if_pos ⟨h1, hjn⟩, gi_app_r _ (by omega), gi_lenTail L 8 _ (by omega), l2]; congr 1; omega
  · rw [if_neg (by omega), gi_app_l _ (by omega)]
    by_cases h2 : j < rs.length
    · rw [if_pos h2, gi_app_l _ (by omega), gi_app_l _ h2]
    · rw [if_neg h2]
      by_cases h3 : j = rs.length
      · subst h3; rw [if_pos rfl, gi_app_l _ (by omega), gi_app_r _ (by omega)]; simp [gi]
      · rw [if_neg h3, gi_app_r _ (by omega), gi_rep]

theorem chunk_app_l (x y : List Int) (j : Nat) (h : 64 * j + 64 ≤ x.length) : chunk (x ++ y) j = chunk x j := by
  unfold chunk
  rw [List.drop_append_of_le_length (by omega), List.take_append_of_le_length (by simp; omega)]
theorem chunk_app_r (x y : List Int) (X m : Nat) (h : 64 * X = x.length) : chunk (x ++ y) (X + m) = chunk y m := by
  unfold chunk
  rw [show 64 * (X + m) = x.length + 64 * m by omega, List.drop_append, List.drop_of_length_le (by omega), List.nil_append, show x.length + 64 * m - x.length = 64 * m by omega]
theorem absorbN_app_l (K : List Int) (s : S8) (x y : List Int) : ∀ k, 64 * k ≤ x.length → absorbN K s (x ++ y) k = absorbN K s x k
  | 0, _ => rfl
  | k + 1, h => by rw [absorbN, absorbN, absorbN_app_l K s x y k (by omega), chunk_app_l x y k (by omega)]
theorem absorbN_app_r (K : List Int) (s : S8) (x y : List Int) (X : Nat) (h : 64 * X = x.length) : ∀ m, absorbN K s (x ++ y) (X + m) = absorbN K (absorbN K s x X) y m
  | 0 => absorbN_app_l K s x y X (by omega)
  | m + 1 => by rw [show X + (m + 1) = (X + m) + 1 by omega, absorbN, absorbN, absorbN_app_r K s x y X h m, chunk_app_r x y X m h]

theorem sha_pad (bs : List Int) : shaS bs = idS (absorbN kWords s0 (padL bs) ((padL bs).length / 64)) := by
  have hw : 64 * (whole bs.length / 64) = whole bs.length := by unfold whole; omega
  have htk : (bs.take (whole bs.length)).length = whole bs.length := by rw [List.length_take]; unfold whole; omega
  have hdr : (bs.drop (whole bs.length)).length = bs.length % 64 := by rw [List.length_drop]; unfold whole; omega
  have hel := endLen_spec bs.length
  have hz : (bs.drop (whole bs.length)).length + 1 + padZ bs.length + 8 = endLen bs.length := by
    rw [hdr]; unfold padZ endLen; split <;> omega
  have he := end_pad (bs.drop (whole bs.length)) (endLen bs.length) (padZ bs.length) (bs.length * 8) hel.2.2 hz
  have hp : padL bs = bs.take (whole bs.length) ++ ((endS (bs.drop (whole bs.length)) (endLen bs.length) (bs.length * 8)).take (endLen bs.length)) := by
    rw [he]; unfold padL
    rw [← List.append_assoc, ← List.append_assoc, ← List.append_assoc, List.take_append_drop]
  have hE : ((endS (bs.drop (whole bs.length)) (endLen bs.length) (bs.length * 8)).take (endLen bs.length)).length = endLen bs.length := by
    rw [List.length_take, show (endS (bs.drop (whole bs.length)) (endLen bs.length) (bs.length * 8)).length = 128 from endN_length _ _ _ (by rw [hdr]; omega) 8]; omega
  rw [hp, List.length_append, htk, hE, show (whole bs.length + endLen bs.length) / 64 = whole bs.length / 64 + endLen bs.length / 64 by omega,
    absorbN_app_r kWords s0 _ _ (whole bs.length / 64) (by rw [htk, hw])]
  unfold shaS absorbS
  rw [htk, hE]
end

section
open Go

def n4 (q : Int) : List Int := [q / 16777216 % 256, q / 65536 % 256, q / 256 % 256, q % 256]
def n2 (i : Int) : List Int := [i / 256 % 256, i % 256]
def stepL (S : List Int → List Int) (H : List Int) (i j : Int) (t : List Int) : List Int := S (H ++ n2 i ++ [j] ++ t)
def walkL (S : List Int → List Int) (H : List Int) (i : Int) (a : Nat) : Nat → List Int → List Int
  | 0, t => t
  | k + 1, t => stepL S H i ((a + k : Nat) : Int) (walkL S H i a k t)
def catN (f : Nat → List Int) : Nat → List Int
  | 0 => []
  | k + 1 => catN f k ++ f k
def xL (S : List Int → List Int) (H seed : List Int) (i : Int) : List Int := stepL S H i 255 seed
def yL (S : List Int → List Int) (H seed : List Int) (i : Nat) : List Int := walkL S H i 0 3 (xL S H seed i)
def topL (S : List Int → List Int) (H : List Int) (f : Nat → List Int) : List Int := S (H ++ [128, 128] ++ catN f 133)
def pubL (S : List Int → List Int) (H seed : List Int) : List Int := topL S H (yL S H seed)
def saltL (S : List Int → List Int) (H seed : List Int) : List Int := stepL S H 65533 255 seed
def textL (S : List Int → List Int) (H c msg : List Int) : List Int := S (H ++ [129, 129] ++ c ++ msg)
def digN (b : List Int) (i : Nat) : Int := gi b (i / 4) / 2 ^ (6 - 2 * (i % 4)) % 4
def sumN (b : List Int) : Nat → Int
  | 0 => 0
  | k + 1 => sumN b k + (3 - digN b k)
def fullL (Q : List Int) : List Int := Q ++ n2 (64 * sumN Q 128)
def digsL (Q : List Int) : List Int := (List.range 133).map (digN (fullL Q))
def zL (S : List Int → List Int) (H seed Q : List Int) (i : Nat) : List Int := walkL S H i 0 (digN (fullL Q) i).toNat (xL S H seed i)
def sigL (S : List Int → List Int) (H seed msg : List Int) : List Int := n4 2 ++ saltL S H seed ++ catN (zL S H seed (textL S H (saltL S H seed) msg)) 133
def cutL (sig : List Int) (at_ : Nat) : List Int := (sig.drop at_).take 32
def wL (S : List Int → List Int) (H Q sig : List Int) (i : Nat) : List Int := walkL S H i (digN (fullL Q) i).toNat (3 - (digN (fullL Q) i).toNat) (cutL sig (36 + 32 * i))
def backL (S : List Int → List Int) (H msg sig : List Int) : List Int := topL S H (wL S H (textL S H (cutL sig 4) msg) sig)
def signed (sig : List Int) : Prop := sig.length = 4292 ∧ sig.take 4 = n4 2
instance (sig : List Int) : Decidable (signed sig) := inferInstanceAs (Decidable (_ ∧ _))

theorem n4_len (q : Int) : (n4 q).length = 4 := rfl
theorem n2_len (q : Int) : (n2 q).length = 2 := rfl
theorem digN_range (b : List Int) (i : Nat) : 0 ≤ digN b i ∧ digN b i < 4 := by unfold digN; omega
theorem digN_nat (b : List Int) (i : Nat) : ((digN b i).toNat : Int) = digN b i ∧ (digN b i).toNat < 4 := by have := digN_range b i; omega
theorem sumN_range (b : List Int) : ∀ k, 0 ≤ sumN b k ∧ sumN b k ≤ 3 * (k : Int)
  | 0 => by simp [sumN]
  | k + 1 => by
    have h1 := sumN_range b k
    have h2 := digN_range b k
    simp only [sumN]
    omega
theorem digN_front (b c : List Int) (i : Nat) (h : i / 4 < b.length) : digN (b ++ c) i = digN b i := by
  unfold digN gi; simp only [List.getD_eq_getElem?_getD, List.getElem?_append_left h]
theorem sumN_front (b c : List Int) : ∀ k, k ≤ 4 * b.length → sumN (b ++ c) k = sumN b k
  | 0, _ => rfl
  | k + 1, h => by
    simp only [sumN]
    rw [sumN_front b c k (by omega), digN_front b c k (by omega)]
theorem walkL_len {S : List Int → List Int} (hS : ∀ l, (S l).length = 32) (H : List Int) (i : Int) (a : Nat) (t : List Int) (ht : t.length = 32) : ∀ k, (walkL S H i a k t).length = 32
  | 0 => ht
  | _ + 1 => hS _
theorem walkL_add (S : List Int → List Int) (H : List Int) (i : Int) (a b : Nat) (t : List Int) : ∀ c, walkL S H i (a + b) c (walkL S H i a b t) = walkL S H i a (b + c) t
  | 0 => rfl
  | c + 1 => by
    rw [show b + (c + 1) = (b + c) + 1 by omega]
    simp only [walkL]
    rw [walkL_add S H i a b t c, Nat.add_assoc]
theorem catN_len {f : Nat → List Int} (hf : ∀ i, (f i).length = 32) : ∀ k, (catN f k).length = 32 * k
  | 0 => rfl
  | k + 1 => by rw [catN, List.length_append, catN_len hf k, hf k]; omega
theorem catN_congr {f g : Nat → List Int} : ∀ k, (∀ i, i < k → f i = g i) → catN f k = catN g k
  | 0, _ => rfl
  | k + 1, h => by rw [catN, catN, catN_congr k (fun i hi => h i (by omega)), h k (by omega)]
theorem catN_cut {f : Nat → List Int} (hf : ∀ i, (f i).length = 32) : ∀ (n k : Nat), k < n → ((catN f n).drop (32 * k)).take 32 = f k
  | 0, k, h => by omega
  | n + 1, k, h => by
    rw [catN]
    have hl := catN_len hf n
    by_cases e : k = n
    · subst e
      rw [List.drop_append, hl, Nat.sub_self, List.drop_of_length_le (by omega)]
      simp only [List.nil_append, List.drop_zero]
      exact List.take_of_length_le (by rw [hf k]; omega)
    · rw [List.drop_append_of_le_length (by omega), List.take_append_of_le_length (by simp; omega)]
      exact catN_cut hf n k (by omega)
theorem xL_len {S : List Int → List Int} (hS : ∀ l, (S l).length = 32) (H seed : List Int) (i : Int) : (xL S H seed i).length = 32 := hS _
theorem yL_len {S : List Int → List Int} (hS : ∀ l, (S l).length = 32) (H seed : List Int) (i : Nat) : (yL S H seed i).length = 32 := hS _
theorem zL_len {S : List Int → List Int} (hS : ∀ l, (S l).length = 32) (H seed Q : List Int) (i : Nat) : (zL S H seed Q i).length = 32 := walkL_len hS _ _ _ _ (hS _) _
theorem digsL_len (Q : List Int) : (digsL Q).length = 133 := by simp [digsL]
theorem digsL_at (Q : List Int) (i : Nat) (h : i < 133) : gi (digsL Q) i = digN (fullL Q) i := by simp [gi, digsL, h]
theorem sigL_len {S : List Int → List Int} (hS : ∀ l, (S l).length = 32) (H seed msg : List Int) : (sigL S H seed msg).length = 4292 := by
  unfold sigL saltL stepL
  rw [List.length_append, List.length_append, n4_len, hS, catN_len (zL_len hS H seed _)]
theorem sigL_salt {S : List Int → List Int} (hS : ∀ l, (S l).length = 32) (H seed msg : List Int) : cutL (sigL S H seed msg) 4 = saltL S H seed := by
  unfold sigL cutL
  rw [List.append_assoc, List.drop_append_of_le_length (by simp [n4]), List.drop_of_length_le (by simp [n4]), List.nil_append]
  exact List.take_left' (hS _)
theorem sigL_type (S : List Int → List Int) (H seed msg : List Int) : (sigL S H seed msg).take 4 = n4 2 := by
  unfold sigL
  rw [List.append_assoc]
  exact List.take_left' rfl
theorem sigL_chain {S : List Int → List Int} (hS : ∀ l, (S l).length = 32) (H seed msg : List Int) (i : Nat) (hi : i < 133) : cutL (sigL S H seed msg) (36 + 32 * i) = zL S H seed (textL S H (saltL S H seed) msg) i := by
  unfold sigL cutL
  have hl : (n4 2 ++ saltL S H seed).length = 36 := by rw [List.length_append, n4_len]; unfold saltL stepL; rw [hS]
  rw [List.drop_append, hl, List.drop_of_length_le (by omega), List.nil_append, show 36 + 32 * i - 36 = 32 * i by omega]
  exact catN_cut (zL_len hS _ _ _) 133 i hi
theorem signed_sig {S : List Int → List Int} (hS : ∀ l, (S l).length = 32) (H seed msg : List Int) : signed (sigL S H seed msg) := ⟨sigL_len hS H seed msg, sigL_type S H seed msg⟩
/-- What was signed leads back to its key. -/
theorem back_sig {S : List Int → List Int} (hS : ∀ l, (S l).length = 32) (H seed msg : List Int) : backL S H msg (sigL S H seed msg) = pubL S H seed := by
  unfold backL pubL topL
  rw [sigL_salt hS]
  rw [catN_congr (f := wL S H (textL S H (saltL S H seed) msg) (sigL S H seed msg)) (g := yL S H seed) 133 (fun i hi => ?_)]
  unfold wL yL
  rw [sigL_chain hS H seed msg i hi]
  unfold zL
  have h := (digN_nat (fullL (textL S H (saltL S H seed) msg)) i).2
  have := walkL_add S H i 0 (digN (fullL (textL S H (saltL S H seed) msg)) i).toNat (xL S H seed i) (3 - (digN (fullL (textL S H (saltL S H seed) msg)) i).toNat)
  rw [Nat.zero_add] at this
  rw [this, show (digN (fullL (textL S H (saltL S H seed) msg)) i).toNat + (3 - (digN (fullL (textL S H (saltL S H seed) msg)) i).toNat) = 3 by omega]
end

end Go.Proofs.YtoebnkepeledmaaDoor
