/- Entries written as bytes are read as they were; names that rise, and such as do not. No program in it. -/
import Derived.Test.YtgcffdnbihfghaaPDir
namespace Go.Proofs.Ytgcffdnbihfghaa
open Go Go.RowKit
def bNum (s : ByteArray) : List Int := s.data.toList.map fun x => (x.toNat : Int)
def encE (e : Ent) : List Int := (e.name.size : Int) :: (bNum e.name ++ e.node)
def encD (E : List Ent) : List Int := E.flatMap encE
theorem bNum_len (s : ByteArray) : (bNum s).length = s.size := by simp [bNum]
theorem bNum_by (s : ByteArray) : By (bNum s) := fun x hx => by
  obtain ⟨y, _, rfl⟩ := List.mem_map.1 hx
  have := y.toNat_lt
  omega
theorem strOf_bNum (s : ByteArray) : strOfNums (bNum s) = s := by
  apply ba_ext
  show ((bNum s).map fun n => UInt8.ofNat n.toNat).toArray.toList = _
  simp only [bNum, List.map_map]
  rw [List.map_congr_left (g := id) (fun x _ => by simp)]
  simp
theorem encE_len {e : Ent} (h : e.node.length = 32) : (encE e).length = e.name.size + 33 := by simp [encE, bNum_len, h]
theorem pD_enc : ∀ {E : List Ent}, (∀ e ∈ E, e.node.length = 32) → pD (encD E) = some E
  | [], _ => by simp [encD, pD_nil]
  | e :: t, h => by
    have h1 := encE_len (h e (by simp))
    have ih := pD_enc (E := t) (fun x hx => h x (by simp [hx]))
    have hc : encD (e :: t) = encE e ++ encD t := by simp [encD]
    have hg : gi (encD (e :: t)) 0 = (e.name.size : Int) := by rw [hc]; simp [encE, gi]
    have hl : (encD (e :: t)).length = e.name.size + 33 + (encD t).length := by rw [hc, List.length_append, h1]
    rw [pD_step (k := e.name.size) (by omega) hg (by omega), hc, ← h1, List.drop_left, List.take_left, ih]
    have hr : rdE (encE e) e.name.size = e := by
      have e1 : ((encE e).drop 1).take e.name.size = bNum e.name := by
        simp only [encE, List.drop_succ_cons, List.drop_zero]
        rw [← bNum_len, List.take_left]
      have e2 : (encE e).drop (e.name.size + 1) = e.node := by
        simp only [encE, List.drop_succ_cons]
        rw [← bNum_len, List.drop_left]
      rw [rdE, e1, e2, strOf_bNum]
    simp [hr]
theorem less_irr : ∀ l : List UInt8, Op.bytesLess l l = false
  | [] => rfl
  | a :: l => by simp [Op.bytesLess, less_irr l]
theorem less_asym : ∀ {l k : List UInt8}, Op.bytesLess l k = true → Op.bytesLess k l = false
  | _, [], h => by simp [Op.bytesLess] at h
  | [], _ :: _, _ => rfl
  | a :: l, b :: k, h => by
    simp only [Op.bytesLess, Bool.or_eq_true, decide_eq_true_eq, Bool.and_eq_true, beq_iff_eq, Bool.or_eq_false_iff, decide_eq_false_iff_not, Bool.and_eq_false_imp] at h ⊢
    rcases h with h | ⟨rfl, h⟩
    · exact ⟨UInt8.not_lt.2 (UInt8.le_of_lt h), fun e => by subst e; exact absurd h (UInt8.lt_irrefl _)⟩
    · exact ⟨UInt8.lt_irrefl _, fun _ => less_asym h⟩
/-- What names Name makes: a name, and short, with no node. -/
def GoodE (e : Ent) : Prop := chk e.name.data.toList = 0 ∧ e.name.size ≤ 49 ∧ e.node = zer 32
theorem nmE_good : ∀ {E : List Ent}, (∀ e ∈ E, GoodE e) → nmE E = 0
  | [], _ => rfl
  | e :: t, h => by rw [nmE, if_pos (h e (by simp)).1]; exact nmE_good (fun x hx => h x (by simp [hx]))
theorem rise_at : ∀ {E : List Ent} {i : Nat} {e f : Ent}, rise E = true → E[i]? = some e → E[i + 1]? = some f → lessE e f = true
  | _ :: _ :: _, 0, e, f, h, h1, h2 => by simp at h1 h2; subst h1 h2; simp only [rise, Bool.and_eq_true] at h; exact h.1
  | x :: y :: t, i + 1, e, f, h, h1, h2 => rise_at (E := y :: t) (i := i) (by simp only [rise, Bool.and_eq_true] at h; exact h.2) (by simpa using h1) (by simpa using h2)
  | [_], i, e, f, _, _, h2 => by simp at h2
  | [], i, e, f, _, _, h2 => by simp at h2
theorem rise_not {E : List Ent} {i : Nat} {e f : Ent} (h1 : E[i]? = some e) (h2 : E[i + 1]? = some f) (h : lessE e f = false) : rise E = false := by
  cases hr : rise E with
  | false => rfl
  | true => rw [rise_at hr h1 h2] at h; cases h
theorem rise_snoc : ∀ {E : List Ent} {e : Ent}, rise E = true → (∀ f, E.getLast? = some f → lessE f e = true) → rise (E ++ [e]) = true
  | [], e, _, _ => rfl
  | [x], e, _, h => by simp [rise, h x (by simp)]
  | x :: y :: t, e, hr, h => by
    simp only [rise, Bool.and_eq_true, List.cons_append] at hr ⊢
    exact ⟨hr.1, rise_snoc (E := y :: t) hr.2 (fun f hf => h f (by rw [List.getLast?_cons_cons]; exact hf))⟩
end Go.Proofs.Ytgcffdnbihfghaa
