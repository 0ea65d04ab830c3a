/- Entries of a directory as plain data; whether they may be one's: what checkEntries answers. No old memory turns. -/
import Derived.Test.YtgcffdnbihfghaaIds
import Derived.Test.YtgcffdnbihfghaaNName
import Derived.Test.YtgcffdnbihfghaaNRcheck
import Derived.Laws.Cover1
namespace Go.Proofs.Ytgcffdnbihfghaa
open Go Go.RowKit
structure Ent where
  name : ByteArray
  node : List Int
/-- An entry's cells. -/
def ec (e : Ent) : List Value := .string e.name :: e.node.map (Value.int .u8)
def en (e : Ent) : Array Value := (ec e).toArray
def zE : Ent := ⟨⟨#[]⟩, zer 32⟩
def EntOk (e : Ent) : Prop := e.node.length = 32 ∧ By e.node ∧ e.name.size ≤ 4611686018427387904
def EntsOk (E : List Ent) : Prop := ∀ e ∈ E, EntOk e
/-- The entries lie where the slice says. -/
def Ents (w : World) (p : Option Addr) (E : List Ent) : Prop := 0 < E.length → ∃ b o, p = some ⟨b, o, none⟩ ∧ ∀ i e, E[i]? = some e → w.rangeAt b (o + i * 33) (ec e)
def lessE (e f : Ent) : Bool := Op.bytesLess e.name.toList f.name.toList
def nmE : List Ent → Int
  | [] => 0
  | e :: t => if chk e.name.data.toList = 0 then nmE t else chk e.name.data.toList
def rise : List Ent → Bool
  | e :: f :: t => lessE e f && rise (f :: t)
  | _ => true
def chkE (E : List Ent) : Int := if nmE E ≠ 0 then nmE E else if rise E = false then 1 else if 20 < E.length then 4 else 0
theorem ec_len {e : Ent} (h : e.node.length = 32) : (ec e).length = 33 := by simp [ec, h]
theorem en_size {e : Ent} (h : e.node.length = 32) : (en e).size = 33 := by simp [en, ec_len h]
theorem en_one (e : Ent) : (en e).all (·.oneCell') = true := by simp [en, ec, Value.oneCell']
theorem en0 (e : Ent) : (en e)[0]? = some (.string e.name) := by simp [en, ec]
theorem info54 {e : Ent} (h : e.node.length = 32) : (Try.prog.info? 54).map (·.size) = some (ec e).length := by rw [ec_len h]; kernel_rfl
theorem rangeAt_below {w w' : World} {B b o : Nat} {cs : List Value} (h : w.rangeAt b o cs) (hb : Below B w w') (hB : w.heap.size ≤ B) : w'.rangeAt b o cs := fun j v hj => by
  have h1 := h j v hj
  have h2 := block_lt_of_cell h1
  rw [hb.cell (p := ⟨b, o + j, none⟩) (by simp only at h2 ⊢; omega)]; exact h1
theorem Ents.below {w w' : World} {B : Nat} {p : Option Addr} {E : List Ent} (h : Ents w p E) (hb : Below B w w') (hB : w.heap.size ≤ B) : Ents w' p E := fun hp => by
  obtain ⟨b, o, rfl, hc⟩ := h hp
  exact ⟨b, o, rfl, fun i e hi => rangeAt_below (hc i e hi) hb hB⟩
theorem range0 {w : World} {b o : Nat} {e : Ent} (h : w.rangeAt b o (ec e)) : w.cell? ⟨b, o, none⟩ = some (.string e.name) := h 0 _ rfl
theorem nmE_drop {E : List Ent} {j : Nat} {e : Ent} (h : E[j]? = some e) : nmE (E.drop j) = if chk e.name.data.toList = 0 then nmE (E.drop (j + 1)) else chk e.name.data.toList := by
  obtain ⟨hj, rfl⟩ := List.getElem?_eq_some_iff.1 h
  rw [List.drop_eq_getElem_cons hj]; rfl
theorem rise_drop {E : List Ent} {j : Nat} {e f : Ent} (h : E[j]? = some e) (h2 : E[j + 1]? = some f) : rise (E.drop j) = (lessE e f && rise (E.drop (j + 1))) := by
  obtain ⟨hj, rfl⟩ := List.getElem?_eq_some_iff.1 h
  obtain ⟨hj2, rfl⟩ := List.getElem?_eq_some_iff.1 h2
  rw [List.drop_eq_getElem_cons hj, List.drop_eq_getElem_cons hj2]; rfl
theorem rise_short : ∀ {E : List Ent}, E.length ≤ 1 → rise E = true
  | [], _ => rfl
  | [_], _ => rfl
  | _ :: _ :: _, h => by simp at h
set_option maxRecDepth 20000 in
set_option maxHeartbeats 1000000 in
theorem entries_check (E : List Ent) (n : Nat) (p : Option Addr) (cap : Nat) (w : World) (hl : E.length = n) (hE : Ents w p E) (hok : EntsOk E) (hn : n ≤ 1000000) :
    Calls Try.prog 41 #[.slice p n cap] w fun e w' => e = .returned (.int .i64 (chkE E)) ∧ Below w.heap.size w w' := by
  go_enter Try.func41, Try.ntmps41
  go_wp2
  go_loopw [9] (fun i wr => ∃ j : Nat, j ≤ n ∧ i = .int .i64 j ∧ nmE (E.drop j) = nmE E ∧ Below w.heap.size w wr) (fun i _ => n - (intOf i).toNat)
  case atStart => exact ⟨0, by omega, rfl, rfl, Below.refl _ _⟩
  case round =>
    obtain ⟨j, hj, rfl, hnm, b1⟩ := hrel
    by_cases hjn : j < n
    · have hget : E[j]? = some (E[j]'(by omega)) := List.getElem?_eq_getElem (by omega)
      obtain ⟨b, o, rfl, hc⟩ := (hE.below b1 (Nat.le_refl _)) (by omega)
      have hrg := hc j _ hget
      obtain ⟨h1, h2, h3⟩ := hok _ (List.getElem_mem (h := (by omega : j < E.length)))
      have hd := nmE_drop hget
      rw [hnm] at hd
      generalize E[j]'(by omega) = e at *
      have hi := info54 h1
      have hi2 : (Try.prog.info? 54).map (·.size) = some (en e).size := info54 h1
      have hold : (en zE).size = (en e).size := by rw [en_size h1]; rfl
      have hck := fun wx => check_any e.name wx h3
      clear hc hE hok hget h1 h2 h3
      go_upto_region 4 with (first | (refine wpList_load_mid (by rfl) 54 (.tmp 11) (by rfl) b (o + j * 33) (by rfl) (ec e) _ hrg Try.underlying54 rfl hi ?_) | (refine store_row0 54 (.tmp 4) (.tmp 12) (by rfl) (by rfl) (by rfl) wr.heap.size (en e) (by rfl) (by rfl) 54 (en zE) (Row.new _ _ _) hi2 hold (en_one e) ?_))
      have r4 : Row ((wr.alloc (.cells (en zE) 54)).setRow wr.heap.size (en e)) wr.heap.size 54 (en e) := (Row.new _ _ _).setRow _
      have bS := below_setRow (b1.alloc b1.size (.cells (en zE) 54)) b1.size (en e)
      have c4 := r4.cell (j := 0)
      rw [en0] at c4
      change Code.wp _ _ _ _ ((wr.alloc (.cells (en zE) 54)).setRow wr.heap.size (en e))
      generalize (wr.alloc (.cells (en zE) 54)).setRow wr.heap.size (en e) = w2 at *
      generalize wr.heap.size = g at *
      clear r4 hi hi2 hold hrg
      generalize chk e.name.data.toList = z at *
      by_cases hz : z = 0
      · subst hz
        rw [if_pos rfl] at hd
        go_wp2_with (go_at_call 48; (with_reducible refine Calls.mono (hck _) ?_); rintro e1 w3 ⟨rfl, hb3⟩)
        go_roundw
        case rel => exact ⟨j + 1, by omega, by go_num, hd.symm, bS.trans (hb3.mono bS.size)⟩
        case measure => simp [intOf]; omega
      · rw [if_neg hz] at hd
        have hzb : (z == 0) = false := by simp [hz]
        go_wp2_with (go_at_call 48; (with_reducible refine Calls.mono (hck _) ?_); rintro e1 w3 ⟨rfl, hb3⟩)
        go_ret
        exact ⟨by rw [chkE, hd, if_pos hz]; rfl, bS.trans (hb3.mono bS.size)⟩
    · have hnm0 : nmE E = 0 := by rw [← hnm, List.drop_eq_nil_of_le (by omega)]; rfl
      have hji : (n : Int) ≤ (j : Int) := by omega
      clear hnm
      go_wp2
      clear hji hjn hj
      go_loopw [6] (fun i wr => ∃ m : Nat, i = .int .i64 ((m : Int) + 1) ∧ (m + 1 ≤ n ∨ m = 0) ∧ rise (E.drop m) = rise E ∧ Below w.heap.size w wr) (fun i _ => n - (intOf i).toNat)
      case atStart => exact ⟨0, rfl, .inr rfl, rfl, b1⟩
      case round =>
        obtain ⟨m, rfl, hm, hrs, b1⟩ := hrel
        by_cases hmn : m + 1 < n
        · have hget : E[m]? = some (E[m]'(by omega)) := List.getElem?_eq_getElem (by omega)
          have hget2 : E[m + 1]? = some (E[m + 1]'(by omega)) := List.getElem?_eq_getElem (by omega)
          obtain ⟨b, o, rfl, hc⟩ := hE (by omega)
          have c1 := fun k => range0 (rangeAt_below (hc m _ hget) (below_drewN b1 k) (Nat.le_refl _))
          have c2 := fun k => range0 (rangeAt_below (hc (m + 1) _ hget2) (below_drewN b1 k) (Nat.le_refl _))
          have hd := rise_drop hget hget2
          rw [hrs, lessE] at hd
          generalize E[m]'(by omega) = e at *
          generalize E[m + 1]'(by omega) = f at *
          clear hc hE hok hget hget2 hm hrs
          have hmi : (m : Int) + 1 < n := by omega
          go_upto_region 11 with fail
          refine wp_region_quiet_lit (by kernel_rfl) (by kernel_rfl) ?_
          repeat (go_big_quiet_step (fail))
          refine wpQuiet_nil ?_
          rintro _ ⟨nq, rfl⟩
          have b2 := below_drewN b1 nq
          clear c1 c2 b1
          generalize wr.drewN nq = w2 at *
          generalize Op.bytesLess e.name.toList f.name.toList = q at *
          cases q
          · go_wp2
            go_ret
            rw [Bool.false_and] at hd
            exact ⟨by rw [chkE, hnm0, hd]; rfl, b2⟩
          · rw [Bool.true_and] at hd
            go_wp2
            go_roundw
            case rel => exact ⟨m + 1, by go_num, .inl (by omega), hd.symm, b2⟩
            case measure => simp [intOf]; omega
        · have hr : rise E = true := by rw [← hrs]; exact rise_short (by simp; omega)
          have hmi : (n : Int) ≤ (m : Int) + 1 := by omega
          have hch : chkE E = if 20 < n then 4 else 0 := by rw [chkE, hnm0, hr, hl]; simp
          by_cases h20 : 20 < n
          · rw [if_pos h20] at hch
            have h20i : (20 : Int) < n := by omega
            go_wp2
            go_ret
            exact ⟨by rw [hch]; rfl, b1⟩
          · rw [if_neg h20] at hch
            have h20i : (n : Int) ≤ 20 := by omega
            go_wp2
            go_ret
            exact ⟨by rw [hch]; rfl, b1⟩
end Go.Proofs.Ytgcffdnbihfghaa
