/- A path of names with one name more. No program in it. -/
import Derived.Test.YtkehpgegghhfpaaDoorName
namespace Go.Proofs.YtkehpgegghhfpaaDoor

/-- The names of some rows of numbers. -/
def nms (zss : List (List Int)) : List ByteArray := zss.map nm
theorem nms_chk (zss : List (List Int)) : ∀ x ∈ Ls (nms zss), chk x = 0 := by
  intro x hx
  obtain ⟨b, hb, rfl⟩ := List.mem_map.1 hx
  obtain ⟨z, _, rfl⟩ := List.mem_map.1 hb
  rw [nm_data]; exact nm_chk z
theorem nms_all (zss : List (List Int)) (h : zss.length ≤ 5) : allE (Ls (nms zss)) = 0 := by
  unfold allE
  rw [if_neg (by simp [Ls, nms]; omega)]
  exact firstE_of (nms_chk zss)
theorem nms_size (zss : List (List Int)) : ∀ x ∈ nms zss, x.size ≤ 49 := by
  intro x hx
  obtain ⟨z, _, rfl⟩ := List.mem_map.1 hx
  exact nm_size z
theorem Ls_append (xs ys : List ByteArray) : Ls (xs ++ ys) = Ls xs ++ Ls ys := by simp [Ls]
/-- The path with one name more. -/
theorem path_more (xs : List (List UInt8)) (y : List UInt8) : pathL (xs ++ [y]) = (if pathL xs = [47] then [47] else pathL xs ++ [47]) ++ y ∨ ∃ x ∈ xs, x = [] := by
  by_cases hx : xs = []
  · subst hx; left; simp [pathL]
  · have h1 : pathL (xs ++ [y]) = pathL xs ++ (47 :: y) := by
      unfold pathL
      rw [if_neg (by simp), if_neg hx]
      simp
    by_cases h47 : pathL xs = [47]
    · right
      unfold pathL at h47
      rw [if_neg hx] at h47
      cases xs with
      | nil => exact absurd rfl hx
      | cons x t =>
        simp only [List.flatMap_cons, List.cons_append, List.cons.injEq, true_and, List.append_eq_nil_iff] at h47
        exact ⟨x, by simp, h47.1⟩
    · left
      rw [h1, if_neg h47]; simp
/-- One name too many. -/
theorem spl_many (xs : List (List UInt8)) (h : ∀ x ∈ xs, chk x = 0) (h5 : 5 < xs.length) : splE (pathL xs) = 4 := by
  have hx : xs ≠ [] := fun e => by subst e; simp at h5
  have hp : pathL xs = xs.flatMap (fun x => 47 :: x) := by simp [pathL, hx]
  have hc := cut_flat xs hx (fun x m => chk_stroke (h x m))
  rw [← hp] at hc
  have hn : pathL xs ≠ [47] := fun e => by
    rw [e] at hc
    have : xs = [[]] := by rw [← hc]; rfl
    subst this
    simp at h5
  have hb : badEnds (pathL xs) = false := by
    unfold badEnds
    rw [Bool.or_eq_false_iff]
    constructor
    · rw [hp]; cases xs with
      | nil => exact absurd rfl hx
      | cons x t => simp
    · obtain ⟨ys, y, rfl⟩ : ∃ ys y, xs = ys ++ [y] := ⟨xs.dropLast, xs.getLast hx, (List.dropLast_concat_getLast hx).symm⟩
      have hy := h y (by simp)
      rw [hp]
      have hyn := chk_ne hy
      have hys := chk_stroke hy
      simp only [List.flatMap_append, List.flatMap_cons, List.flatMap_nil, List.append_nil, beq_eq_false_iff_ne]
      rw [List.getLast?_append, List.getLast?_cons]
      cases hl : y.getLast? with
      | none => simp at hl; exact absurd hl hyn
      | some z =>
        intro e
        have e : z = 47 := by simpa using e
        exact hys (e ▸ List.mem_of_getLast? hl)
  unfold splE
  rw [if_neg hn, if_neg (by simp [hb]), hc]
  unfold allE
  rw [if_pos h5]
/-- The path of names with one more behind it, as 'NamesParts' makes it. -/
theorem parts_path (zss : List (List Int)) (zs : List Int) (h : zss.length ≤ 5) (q : ByteArray) (hq : q = if (jn (nms zss)).toList == [47] then ⟨#[47]⟩ ++ nm zs else jn (nms zss) ++ ⟨#[47]⟩ ++ nm zs) : q.data.toList = pathL (Ls (nms zss ++ [nm zs])) := by
  have hj : (jn (nms zss)).data.toList = pathL (Ls (nms zss)) := by rw [jn_data, joinS, if_pos (nms_all zss h)]
  rcases path_more (Ls (nms zss)) (nm zs).data.toList with hp | ⟨x, hx, h0⟩
  · rw [Ls_append, show Ls [nm zs] = [(nm zs).data.toList] from rfl, hp, hq, ← hj]
    by_cases h47 : (jn (nms zss)).data.toList = [47]
    · rw [if_pos h47, if_pos (by rw [ByteArray.toList_eq]; simpa using h47), cat_data]
    · rw [if_neg h47, if_neg (by rw [ByteArray.toList_eq]; simpa using h47), cat_data, cat_data]
  · exact absurd (nms_chk zss x hx) (by rw [h0]; decide)
theorem nms_more (zss : List (List Int)) (zs : List Int) : nms zss ++ [nm zs] = nms (zss ++ [zs]) := by simp [nms]
theorem jn_size (zss : List (List Int)) (h : zss.length ≤ 10) : (jn (nms zss)).size ≤ 501 := by
  rw [← size_data, jn_data]
  unfold joinS
  split
  · have h1 := pathL_len (Ls (nms zss)) 49 (fun x hx => by
      obtain ⟨b, hb, rfl⟩ := List.mem_map.1 hx
      rw [size_data]; exact nms_size zss b hb)
    have h2 : (Ls (nms zss)).length = zss.length := by simp [Ls, nms]
    omega
  · simp
end Go.Proofs.YtkehpgegghhfpaaDoor
