/- A path's names as texts, and the errors of lists, for NamesPaths. names.Split and the reference's at any text answer one list. -/
import Derived.Test.YtkehpgegghhfpaaDoorKnown
import Derived.Test.YtkehpgegghhfpaaDoorPartsMath
import Derived.Test.YtkehpgegghhfpaaDoorOwn
namespace Go.Proofs.YtkehpgegghhfpaaDoor
open Go.RowKit

/-- The names of a path, as texts. -/
def spB (s : ByteArray) : List ByteArray := (splL s.data.toList).map fun l => ⟨l.toArray⟩
theorem Ls_spB (s : ByteArray) : Ls (spB s) = splL s.data.toList := by
  unfold Ls spB
  rw [List.map_map]
  conv => rhs; rw [← List.map_id (splL s.data.toList)]
  apply List.map_congr_left
  intro l _
  simp
theorem split_spB (s : ByteArray) (w : World) (hs : s.size < 4294967281) (hm : MaxOk w) :
    Calls Tryd.prog 15 #[.string s] w fun e w' => ∃ (p : Option Addr) (c : Nat), e = .returned (.tuple #[.slice p (spB s).length c, .int .i64 (splE s.data.toList)]) ∧ Strs w' p (spB s) ∧ (spB s).length ≤ c ∧ Below w.heap.size w w' :=
  split_of s (spB s) _ w hs hm rfl (Ls_spB s).symm
theorem rsplit_spB (s : ByteArray) (w : World) (hs : s.size ≤ 4294967296) :
    Calls Tryd.prog 17 #[.string s] w fun e w' => ∃ (p : Option Addr) (c : Nat), e = .returned (.tuple #[.slice p (spB s).length c, .int .i64 (splE s.data.toList)]) ∧ Strs w' p (spB s) ∧ (spB s).length ≤ c ∧ Below w.heap.size w w' := by
  refine (rsplit_any s w hs).mono ?_
  rintro e w' ⟨p, c, zs, rfl, h1, h2, h3, h4⟩
  obtain rfl := Ls_inj (h1.trans (Ls_spB s).symm)
  exact ⟨p, c, rfl, h2, h3, h4⟩
theorem mem_path {xs : List (List UInt8)} {x : List UInt8} (h : x ∈ xs) : x.length ≤ (pathL xs).length := by
  have hx : xs ≠ [] := fun e => by subst e; simp at h
  unfold pathL
  rw [if_neg hx]
  clear hx
  induction xs with
  | nil => simp at h
  | cons y t ih =>
    simp only [List.flatMap_cons, List.length_append, List.length_cons]
    rcases List.mem_cons.1 h with rfl | h
    · omega
    · have := ih h; omega
theorem spB_len (s : ByteArray) : (spB s).length ≤ s.size + 1 := by
  have h := cutL_len (s.data.toList.drop 1)
  rw [List.length_drop, size_data] at h
  unfold spB splL
  rw [List.length_map]
  repeat' split
  all_goals first | (simp; done) | omega
/-- Where a path can be split, its names are put together to it again. -/
theorem spB_good (s : ByteArray) (h : splE s.data.toList = 0) : allE (Ls (spB s)) = 0 ∧ jn (spB s) = s ∧ ∀ x ∈ spB s, x.size ≤ s.size := by
  obtain ⟨h1, h2⟩ := path_spl h
  rw [← Ls_spB] at h1 h2
  refine ⟨h1, ?_, fun x hx => ?_⟩
  · apply ba_ext
    rw [jn_data, joinS, if_pos h1, h2]
  · have := mem_path (xs := Ls (spB s)) (x := x.data.toList) (List.mem_map.2 ⟨x, hx, rfl⟩)
    rw [h2, size_data, size_data] at this; exact this
/-- The error of a list of names. -/
theorem nms_err (zss : List (List Int)) : allE (Ls (nms zss)) = if 5 < zss.length then 4 else 0 := by
  by_cases h : 5 < zss.length
  · unfold allE
    rw [if_pos h, if_pos (by simpa [Ls, nms] using h)]
  · rw [if_neg h, nms_all zss (by omega)]
theorem nms_split (zss : List (List Int)) (h : zss.length ≤ 5) : splE (jn (nms zss)).data.toList = 0 ∧ splL (jn (nms zss)).data.toList = Ls (nms zss) := by
  have h0 := nms_all zss h
  rw [jn_data, joinS, if_pos h0]
  exact spl_path h0
/-- The five paths that NamesPaths looks at. -/
def rows5 (s J piece : ByteArray) (k : Nat) : List ByteArray := [s, J.extract 0 k ++ piece ++ J.extract k J.size, ⟨#[47]⟩ ++ s, J ++ ⟨#[47]⟩, J.extract 0 k]
theorem rows5_size (s J piece : ByteArray) (k : Nat) (hs : s.size ≤ 500) (hJ : J.size ≤ 501) (hp : piece.size ≤ 100) : ∀ x ∈ rows5 s J piece k, x.size ≤ 2000 := by
  have h1 : (⟨#[47]⟩ : ByteArray).size = 1 := rfl
  intro x hx
  simp only [rows5, List.mem_cons, List.not_mem_nil, or_false] at hx
  rcases hx with rfl | rfl | rfl | rfl | rfl
  all_goals
    try rw [ByteArray.size_append]
    try rw [ByteArray.size_append]
    try rw [ByteArray.size_extract]
    try rw [ByteArray.size_extract]
    omega
end Go.Proofs.YtkehpgegghhfpaaDoor
