/- What was written is read as it was; fronts of it are cut: plain lists. -/
import Derived.Test.YtcdmjjlbeifgjaaPmodel
import Derived.Test.YtcdmjjlbeifgjaaEncMath
namespace Go.Proofs.Ytcdmjjlbeifgjaa

/-- What m says of the part p, laid into m0. -/
def putP (p : Int) (m m0 : M) : M :=
  if p = 0 then { m0 with pred := m.pred } else if p = 1 then { m0 with node := m.node } else if p = 2 then { m0 with list := m.list } else if p = 3 then { m0 with done := m.done } else if p = 4 then { m0 with err := m.err } else if p = 5 then { m0 with key := m.key } else if p = 6 then { m0 with data := m.data } else { m0 with lease := m.lease }
def putR (m : M) (r : List Int) (m0 : M) : M := r.foldl (fun a p => putP p m a) m0

theorem nb1 (n : Int) (h : 0 ≤ n ∧ n < 256) : nb 1 n = [n] := by rw [nb_one]; congr 1; omega
theorem numE_zero (f n e : Int) (he : e ≠ 0) (h : numE f n e = 0) : blo f ≤ n ∧ n ≤ bhi f := by
  unfold numE at h
  split at h
  · exact absurd h he
  · omega
theorem val_nb (f n : Int) (t : List Int) (h0 : 0 ≤ n) (h1 : n ≤ 6000) (hf : bsz f = 1 → n < 256) : valR f (nb (bsz f) n ++ t) = n := by
  have hs : bsz f = 1 ∨ bsz f = 2 ∨ bsz f = 4 := by
    unfold bsz
    split
    · simp
    · split <;> simp
  unfold valR
  rcases hs with hs | hs | hs
  · rw [hs, nb1 n ⟨h0, hf hs⟩]; simp [beV]
  · rw [hs, nb_two]
    show ((0 * 256 + n / 256 % 256) * 256 + n / 1 % 256 : Int) = n
    omega
  · rw [hs, nb_four]
    show ((((0 * 256 + n / 16777216 % 256) * 256 + n / 65536 % 256) * 256 + n / 256 % 256) * 256 + n / 1 % 256 : Int) = n
    omega
theorem num_back (f n : Int) (t : List Int) (h : blo f ≤ n ∧ n ≤ bhi f) : numRE f (nb (bsz f) n ++ t) = 0 ∧ numRV f (nb (bsz f) n ++ t) = n := by
  have h1 := blo_nonneg f
  have h2 := bhi_le f
  have hf : bsz f = 1 → n < 256 := fun hs => by
    have : bhi f ≤ 20 := by
      unfold bsz at hs
      unfold bhi
      split at hs
      · cases hs
      · split at hs
        · cases hs
        · repeat (first | split | omega)
    omega
  have hv := val_nb f n t (by omega) (by omega) hf
  have hE : numRE f (nb (bsz f) n ++ t) = 0 := by
    unfold numRE
    rw [if_neg (by rw [List.length_append, nb_length]; omega), hv, if_neg (by omega)]
  exact ⟨hE, by unfold numRV; rw [if_pos hE, hv]⟩
theorem num_cut (f : Int) (l : List Int) (h : l.length < bsz f) : numRE f l = 8 := by unfold numRE; rw [if_pos h]
theorem drop_nb (s : Nat) (n : Int) (t : List Int) : (nb s n ++ t).drop s = t := List.drop_left' (nb_length s n)

theorem nodes_back : ∀ (l t : List Int), (∀ x ∈ l, 0 ≤ x ∧ x ≤ 9) → nodesRE l.length (l.flatMap (nb 1) ++ t) = 0 ∧ nodesRV l.length (l.flatMap (nb 1) ++ t) = l
  | [], t, _ => ⟨rfl, rfl⟩
  | x :: l, t, h => by
    have hx := h x (by simp)
    have ih := nodes_back l t fun y hy => h y (by simp [hy])
    have hn := num_back 0 x (l.flatMap (nb 1) ++ t) ⟨hx.1, hx.2⟩
    rw [show bsz 0 = 1 from rfl] at hn
    rw [List.flatMap_cons, List.append_assoc, List.length_cons, nodesRE, nodesRV, hn.1, if_pos rfl, hn.2, drop_nb, ih.1, ih.2]
    exact ⟨rfl, rfl⟩
theorem nodes_cut : ∀ (l : List Int) (j : Nat), (∀ x ∈ l, 0 ≤ x ∧ x ≤ 9) → j < l.length → nodesRE l.length ((l.flatMap (nb 1)).take j) = 8
  | [], j, _, h => by simp at h
  | x :: l, 0, h, _ => by
    rw [List.take_zero, List.length_cons, nodesRE, num_cut 0 [] (by decide)]
    rfl
  | x :: l, j + 1, h, hj => by
    have hx := h x (by simp)
    have ih := nodes_cut l j (fun y hy => h y (by simp [hy])) (by simpa using hj)
    rw [List.flatMap_cons, nb1 x (by omega), List.singleton_append, List.take_succ_cons, List.length_cons, nodesRE]
    have hn := num_back 0 x ((l.flatMap (nb 1)).take j) ⟨hx.1, hx.2⟩
    rw [show bsz 0 = 1 from rfl, nb1 x (by omega), List.singleton_append] at hn
    rw [hn.1, if_pos rfl, List.drop_one, List.tail_cons]
    exact ih
theorem nodesE_mem : ∀ (l : List Int), nodesE l = 0 → ∀ x ∈ l, 0 ≤ x ∧ x ≤ 9
  | [], _, x, hx => by simp at hx
  | y :: l, h, x, hx => by
    rw [nodesE] at h
    split at h
    · cases h
    · rcases List.mem_cons.1 hx with rfl | hx
      · omega
      · exact nodesE_mem l h x hx

/-- What was written of a part is read as it was. -/
theorem part_back (p : Int) (hp : 0 ≤ p ∧ p ≤ 7) (m m0 : M) (t : List Int) (hk : m.key.length = 32) (h : partE p m = 0) : pRE p (partB p m ++ t) = 0 ∧ pRR p (partB p m ++ t) = t ∧ pRM p (partB p m ++ t) m0 = putP p m m0 := by
  rcases (by omega : p = 0 ∨ p = 1 ∨ p = 2 ∨ p = 3 ∨ p = 4 ∨ p = 5 ∨ p = 6 ∨ p = 7) with rfl | rfl | rfl | rfl | rfl | rfl | rfl | rfl
  · by_cases hq : m.pred = -1
    · have hB : partB 0 m = [255] := by show (if m.pred = -1 then [255] else _) = _; rw [if_pos hq]
      rw [hB]
      refine ⟨rfl, rfl, ?_⟩
      show { m0 with pred := -1 } = { m0 with pred := m.pred }
      rw [hq]
    · have hB : partB 0 m = nb 1 m.pred := by show (if m.pred = -1 then [255] else _) = _; rw [if_neg hq]
      have hE : numE 0 m.pred 1 = 0 := by
        have : (if m.pred = -1 then (0 : Int) else numE 0 m.pred 1) = 0 := h
        rwa [if_neg hq] at this
      have hb := numE_zero 0 m.pred 1 (by decide) hE
      have hn := num_back 0 m.pred t hb
      have hb' : 0 ≤ m.pred ∧ m.pred ≤ 9 := hb
      rw [show bsz 0 = 1 from rfl] at hn
      have hh : (nb 1 m.pred ++ t).head? = some m.pred := by rw [nb1 _ (by omega)]; rfl
      have hne : ¬ (some m.pred = some (255 : Int)) := fun e => by injection e with e; omega
      rw [hB]
      refine ⟨?_, drop_nb 1 m.pred t, ?_⟩
      · show predRE _ = 0
        unfold predRE; rw [hh, if_neg hne]; exact hn.1
      · show { m0 with pred := predRV _ } = { m0 with pred := m.pred }
        unfold predRV; rw [hh, if_neg hne, hn.2]
  · have hn := num_back 0 m.node t (numE_zero 0 m.node 1 (by decide) h)
    exact ⟨hn.1, drop_nb 1 m.node t, by show { m0 with node := numRV 0 (nb (bsz 0) m.node ++ t) } = { m0 with node := m.node }; rw [hn.2]⟩
  · have hl : listE m.list = 0 := h
    unfold listE at hl
    split at hl
    · cases hl
    · have hn := num_back 1 m.list.length (m.list.flatMap (nb 1) ++ t) ⟨by show (0 : Int) ≤ _; omega, by show _ ≤ (10 : Int); omega⟩
      rw [show bsz 1 = 1 from rfl] at hn
      have hnb := nodes_back m.list t (nodesE_mem _ hl)
      have hB : partB 2 m ++ t = nb 1 m.list.length ++ (m.list.flatMap (nb 1) ++ t) := by show (nb 1 _ ++ _) ++ t = _; rw [List.append_assoc]
      rw [hB]
      refine ⟨?_, ?_, ?_⟩
      · show listRE _ = 0
        unfold listRE; rw [hn.1, if_pos rfl, hn.2, drop_nb, Int.toNat_natCast]; exact hnb.1
      · show List.drop (1 + (numRV 1 _).toNat) _ = t
        rw [hn.2, Int.toNat_natCast, ← List.drop_drop, drop_nb, List.drop_left' (nodes_len _)]
      · show { m0 with list := listRV _ } = { m0 with list := m.list }
        unfold listRV; rw [hn.2, drop_nb, Int.toNat_natCast, hnb.2]
  · have hB : partB 3 m = nb 1 (if m.done then 1 else 0) := by
      show [if m.done then 1 else 0] = _
      cases m.done <;> rfl
    have hn := num_back 5 (if m.done then 1 else 0) t (by cases m.done <;> decide)
    rw [show bsz 5 = 1 from rfl] at hn
    rw [hB]
    refine ⟨hn.1, drop_nb 1 (if m.done then 1 else 0) t, ?_⟩
    show { m0 with done := numRV 5 _ == 1 } = { m0 with done := m.done }
    rw [hn.2]
    cases m.done <;> rfl
  · have hn := num_back 4 m.err t (numE_zero 4 m.err 1 (by decide) h)
    exact ⟨hn.1, drop_nb 1 m.err t, by show { m0 with err := numRV 4 (nb (bsz 4) m.err ++ t) } = { m0 with err := m.err }; rw [hn.2]⟩
  · have hB : partB 5 m = m.key := rfl
    rw [hB]
    refine ⟨?_, List.drop_left' hk, ?_⟩
    · show (if (m.key ++ t).length < 32 then (8 : Int) else 0) = 0
      rw [if_neg (by rw [List.length_append]; omega)]
    · show { m0 with key := (m.key ++ t).take 32 } = { m0 with key := m.key }
      rw [List.take_left' hk]
  · have hl : dataE m.data = 0 := h
    unfold dataE at hl
    split at hl
    · cases hl
    · have hn := num_back 2 m.data.length (m.data ++ t) ⟨by show (0 : Int) ≤ _; omega, by show _ ≤ (6000 : Int); omega⟩
      rw [show bsz 2 = 2 from rfl] at hn
      have hB : partB 6 m ++ t = nb 2 m.data.length ++ (m.data ++ t) := by show (nb 2 _ ++ _) ++ t = _; rw [List.append_assoc]
      rw [hB]
      refine ⟨?_, ?_, ?_⟩
      · show dataRE _ = 0
        unfold dataRE; rw [hn.1, if_pos rfl, hn.2, drop_nb, Int.toNat_natCast, if_neg (by rw [List.length_append]; omega)]
      · show List.drop (2 + (numRV 2 _).toNat) _ = t
        rw [hn.2, Int.toNat_natCast, ← List.drop_drop, drop_nb, List.drop_left' rfl]
      · show { m0 with data := dataRV _ } = { m0 with data := m.data }
        unfold dataRV; rw [hn.2, drop_nb, Int.toNat_natCast, List.take_left' rfl]
  · have hn := num_back 3 m.lease t (numE_zero 3 m.lease 1 (by decide) h)
    exact ⟨hn.1, drop_nb 4 m.lease t, by show { m0 with lease := numRV 3 (nb (bsz 3) m.lease ++ t) } = { m0 with lease := m.lease }; rw [hn.2]⟩

/-- A front of what was written of a part is cut. -/
theorem part_cut (p : Int) (hp : 0 ≤ p ∧ p ≤ 7) (m : M) (j : Nat) (hk : m.key.length = 32) (h : partE p m = 0) (hj : j < (partB p m).length) : pRE p ((partB p m).take j) = 8 := by
  rcases (by omega : p = 0 ∨ p = 1 ∨ p = 2 ∨ p = 3 ∨ p = 4 ∨ p = 5 ∨ p = 6 ∨ p = 7) with rfl | rfl | rfl | rfl | rfl | rfl | rfl | rfl
  · have hl : (partB 0 m).length = 1 := by
      show (if m.pred = -1 then [255] else nb 1 m.pred).length = 1
      split
      · rfl
      · exact nb_length _ _
    obtain rfl : j = 0 := by omega
    rfl
  · have hl : (partB 1 m).length = 1 := nb_length _ _
    obtain rfl : j = 0 := by omega
    rfl
  · have hl : listE m.list = 0 := h
    unfold listE at hl
    split at hl
    · cases hl
    · have hB : partB 2 m = nb 1 m.list.length ++ m.list.flatMap (nb 1) := rfl
      have hlen : (partB 2 m).length = 1 + m.list.length := by rw [hB, List.length_append, nb_length, nodes_len]
      cases j with
      | zero => rfl
      | succ j =>
        have hn := num_back 1 m.list.length ((m.list.flatMap (nb 1)).take j) ⟨by show (0 : Int) ≤ _; omega, by show _ ≤ (10 : Int); omega⟩
        rw [show bsz 1 = 1 from rfl] at hn
        have ht : (partB 2 m).take (j + 1) = nb 1 m.list.length ++ (m.list.flatMap (nb 1)).take j := by
          rw [hB, nb1 _ (by omega)]; rfl
        rw [ht]
        show listRE _ = 8
        unfold listRE
        rw [hn.1, if_pos rfl, hn.2, drop_nb, Int.toNat_natCast]
        exact nodes_cut _ _ (nodesE_mem _ hl) (by omega)
  · have hl : (partB 3 m).length = 1 := rfl
    obtain rfl : j = 0 := by omega
    rfl
  · have hl : (partB 4 m).length = 1 := nb_length _ _
    obtain rfl : j = 0 := by omega
    rfl
  · have hl : (partB 5 m).length = 32 := hk
    show (if ((partB 5 m).take j).length < 32 then (8 : Int) else 0) = 8
    rw [if_pos (by rw [List.length_take]; omega)]
  · have hl : dataE m.data = 0 := h
    unfold dataE at hl
    split at hl
    · cases hl
    · have hB : partB 6 m = nb 2 m.data.length ++ m.data := rfl
      have hlen : (partB 6 m).length = 2 + m.data.length := by rw [hB, List.length_append, nb_length]
      show dataRE _ = 8
      by_cases h2 : j < 2
      · have := num_cut 2 ((partB 6 m).take j) (by rw [List.length_take]; show _ < 2; omega)
        unfold dataRE
        rw [this]; rfl
      · obtain ⟨i, rfl⟩ : ∃ i, j = 2 + i := ⟨j - 2, by omega⟩
        have hn := num_back 2 m.data.length (m.data.take i) ⟨by show (0 : Int) ≤ _; omega, by show _ ≤ (6000 : Int); omega⟩
        rw [show bsz 2 = 2 from rfl] at hn
        have ht : (partB 6 m).take (2 + i) = nb 2 m.data.length ++ m.data.take i := by
          rw [hB, List.take_append, nb_length, List.take_of_length_le (by rw [nb_length]; omega)]
          congr 2; omega
        rw [ht]
        unfold dataRE
        rw [hn.1, if_pos rfl, hn.2, drop_nb, Int.toNat_natCast, if_pos (by rw [List.length_take]; omega)]
  · have hl : (partB 7 m).length = 4 := nb_length _ _
    exact num_cut 3 _ (by rw [List.length_take]; show _ < 4; omega)

theorem row_back (m : M) (hk : m.key.length = 32) : ∀ (r : List Int) (m0 : M) (t : List Int), (∀ p ∈ r, 0 ≤ p ∧ p ≤ 7) → rowE m r = 0 → rowRE r (rowB m r ++ t) = 0 ∧ rowRR r (rowB m r ++ t) = t ∧ rowRM r (rowB m r ++ t) m0 = putR m r m0
  | [], m0, t, _, _ => ⟨rfl, rfl, rfl⟩
  | p :: r, m0, t, hr, h => by
    rw [rowE] at h
    split at h
    · rename_i hp
      have hb := part_back p (hr p (by simp)) m m0 (rowB m r ++ t) hk hp
      have ih := row_back m hk r (putP p m m0) t (fun q hq => hr q (by simp [hq])) h
      have hB : rowB m (p :: r) ++ t = partB p m ++ (rowB m r ++ t) := by simp [rowB]
      rw [hB]
      refine ⟨?_, ?_, ?_⟩
      · rw [rowRE, hb.1, if_pos rfl, hb.2.1]; exact ih.1
      · show rowRR r (pRR p _) = t
        rw [hb.2.1]; exact ih.2.1
      · show rowRM r (pRR p _) (pRM p _ m0) = _
        rw [hb.2.1, hb.2.2]; exact ih.2.2
    · rename_i hp; exact absurd h hp
theorem row_cut (m : M) (hk : m.key.length = 32) : ∀ (r : List Int) (j : Nat), (∀ p ∈ r, 0 ≤ p ∧ p ≤ 7) → rowE m r = 0 → j < (rowB m r).length → rowRE r ((rowB m r).take j) = 8
  | [], j, _, _, h => by simp [rowB] at h
  | p :: r, j, hr, h, hj => by
    rw [rowE] at h
    split at h
    · rename_i hp
      have hB : rowB m (p :: r) = partB p m ++ rowB m r := by simp [rowB]
      rw [hB, List.length_append] at hj
      rw [hB, rowRE]
      by_cases h1 : j < (partB p m).length
      · rw [List.take_append_of_le_length (by omega), part_cut p (hr p (by simp)) m j hk hp h1]
        rfl
      · obtain ⟨i, rfl⟩ : ∃ i, j = (partB p m).length + i := ⟨j - (partB p m).length, by omega⟩
        have ht : (partB p m ++ rowB m r).take ((partB p m).length + i) = partB p m ++ (rowB m r).take i := List.take_length_add_append i
        have hb := part_back p (hr p (by simp)) m m ((rowB m r).take i) hk hp
        rw [ht, hb.1, if_pos rfl, hb.2.1]
        exact row_cut m hk r i (fun q hq => hr q (by simp [hq])) h (by omega)
    · rename_i hp; exact absurd h hp
end Go.Proofs.Ytcdmjjlbeifgjaa
