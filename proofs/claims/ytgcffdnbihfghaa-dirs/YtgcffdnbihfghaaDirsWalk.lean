/- BlobDirs returns true and turns no old memory, for any entries, rows of numbers, id, numbers and bytes. No condition. -/
import Derived.Test.YtgcffdnbihfghaaRDir
import Derived.Test.YtgcffdnbihfghaaRPD
import Derived.Test.YtgcffdnbihfghaaBend
import Derived.Test.YtgcffdnbihfghaaArgRows
import Derived.Test.YtgcffdnbihfghaaNName
import Derived.Test.YtgcffdnbihfghaaEqE
import Derived.Test.YtgcffdnbihfghaaEntAt
namespace Go.Proofs.Ytgcffdnbihfghaa
open Go Go.RowKit
theorem pD_many : ∀ (k : Nat) {X : List Int} {E : List Ent}, X.length ≤ k → pD X = some E → E.length * 33 ≤ X.length
  | 0, X, E, hk, h => by
    obtain rfl : X = [] := List.eq_nil_of_length_eq_zero (by omega)
    rw [pD_nil] at h; cases h; simp
  | k + 1, X, E, hk, h => by
    by_cases h0 : X = []
    · subst h0; rw [pD_nil] at h; cases h; simp
    · rw [pD, dif_neg h0] at h
      by_cases h1 : X.length < (gi X 0).toNat + 33
      · rw [if_pos h1] at h; cases h
      · rw [if_neg h1] at h
        cases hp : pD (X.drop ((gi X 0).toNat + 33)) with
        | none => rw [hp] at h; cases h
        | some T =>
          rw [hp] at h
          have ih := pD_many k (X := X.drop ((gi X 0).toNat + 33)) (E := T) (by simp; omega) hp
          cases h
          simp at ih ⊢
          omega
theorem dOut_many (X : List Int) : (dOut X).length * 33 ≤ X.length := by
  unfold dOut
  cases hp : pD X with
  | none => simp
  | some E =>
    have := pD_many X.length (Nat.le_refl _) hp
    by_cases h : chkE E = 0
    · simpa [h] using this
    · simp [h]
theorem outD_facts {E : List Ent} (hok : EntsOk E) (hs : ∀ e ∈ E, e.name.size ≤ 100) : By (outD E) ∧ (outD E).length ≤ E.length * 133 ∧ (chkE E = 0 → dOut (outD E) = E) := by
  have h1 : By (encD E) := fun x hx => by
    obtain ⟨e, he, hx⟩ := List.mem_flatMap.1 hx
    obtain ⟨h1, h2, h3⟩ := hok e he
    have h4 := hs e he
    rcases List.mem_cons.1 hx with rfl | hx
    · omega
    rcases List.mem_append.1 hx with hx | hx
    · exact bNum_by _ x hx
    · exact h2 x hx
  have h2 := encD_le (E := E) fun e he => ⟨(hok e he).1, hs e he⟩
  unfold outD
  by_cases h : chkE E = 0
  · rw [if_pos h]
    refine ⟨h1, h2, fun _ => ?_⟩
    rw [dOut, pD_enc (fun e he => (hok e he).1)]
    simp only [h, if_true]
  · rw [if_neg h]; exact ⟨fun x hx => by simp at hx, by simp, fun h3 => absurd h3 h⟩
theorem OwnE.setLow {w : World} {B n : Nat} {v : Value} {E : List Ent} (h : OwnE w B v n E) {p : Addr} (hp : p.block < B) (u : Value) : OwnE (w.setCell p u) B v n E := by
  obtain ⟨hl, h⟩ := h
  refine ⟨hl, ?_⟩
  rcases h with h | ⟨g, cap', cur, hv, hg, hh, r⟩
  · exact .inl h
  · exact .inr ⟨g, cap', cur, hv, hg, Row.setOther (t := 54) (vs := cur) hh (by omega) u, r⟩
set_option maxRecDepth 20000 in
set_option maxHeartbeats 4000000 in
theorem dirs_walk (F : List Ent) (zss : List (List Int)) (node al bl raw : List Int) (n nz : Nat) (pf pz pa ps pr : Option Addr) (cf cz ca cs cr : Nat) (cut : Int) (w : World)
    (hF : F.length = n) (hn : n ≤ 9223372036854775807) (hf : Ents w pf F) (yf0 : ∀ e ∈ F, e.node.length = 32 ∧ By e.node ∧ e.name.size ≤ 9223372036854775807) (hzl : zss.length = nz) (hnz : nz ≤ 9223372036854775807) (hz : Ints2 w pz zss) (hnd : node.length = 32) (ynd : By node)
    (ha : Ints w pa al) (hma : al.length ≤ 9223372036854775807) (hs : Bytes w ps bl) (ys : By bl) (hms : bl.length ≤ 9223372036854775807) (hcr : pr = none → cr = 0 ∧ raw.length = 0) (hr : Bytes w pr raw) (yr : By raw) (hmr : raw.length ≤ 9223372036854775807) (kr : raw.length ≤ cr) :
    Calls Try.prog 5 #[.slice pf n cf, .slice pz nz cz, .agg (v8 node), .slice pa al.length ca, .slice ps bl.length cs, .int .i64 cut, .slice pr raw.length cr] w fun e w' => e = .returned (.bool true) ∧ Below w.heap.size w w' := by
  have hb : Below w.heap.size w (w.alloc (.cells (v8 node) 23)) := (Below.refl _ _).alloc (Nat.le_refl _) _
  have hrow : Row (w.alloc (.cells (v8 node) 23)) w.heap.size 23 (v8 node) := Row.new _ _ _
  by_cases h25 : n > 25
  · have h25i : (25 : Int) < n := by omega
    go_enter Try.func5, Try.ntmps5
    go_wp2_with (go_at_call 9; (with_reducible refine Calls.mono (known_any _) ?_); rintro e w1 ⟨rfl, hb1⟩)
    go_ret
    exact ⟨rfl, hb.trans (hb1.mono hb.size)⟩
  have h25i : (n : Int) ≤ 25 := by omega
  by_cases hl : raw.length > 400
  · have hli : (400 : Int) < raw.length := by omega
    go_enter Try.func5, Try.ntmps5
    go_wp2_with (go_at_call 9; (with_reducible refine Calls.mono (known_any _) ?_); rintro e w1 ⟨rfl, hb1⟩)
    go_ret
    exact ⟨rfl, hb.trans (hb1.mono hb.size)⟩
  have hli : (raw.length : Int) ≤ 400 := by omega
  by_cases h22 : nz > 22
  · have h22i : (22 : Int) < nz := by omega
    go_enter Try.func5, Try.ntmps5
    go_wp2_with (go_at_call 9; (with_reducible refine Calls.mono (known_any _) ?_); rintro e w1 ⟨rfl, hb1⟩)
    go_ret
    exact ⟨rfl, hb.trans (hb1.mono hb.size)⟩
  have h22i : (nz : Int) ≤ 22 := by omega
  obtain ⟨na, hna⟩ : ∃ na, al.length = na := ⟨_, rfl⟩
  obtain ⟨ns, hns⟩ : ∃ ns, bl.length = ns := ⟨_, rfl⟩
  obtain ⟨nr, hnr⟩ : ∃ nr, raw.length = nr := ⟨_, rfl⟩
  rw [hna] at hma ⊢
  rw [hns] at hms ⊢
  rw [hnr] at hmr kr hcr hl hli ⊢
  obtain ⟨g0, hg0⟩ : ∃ g0, w.heap.size = g0 := ⟨_, rfl⟩
  go_enter Try.func5, Try.ntmps5
  go_upto_region 5 with (go_at_call 9; (with_reducible refine Calls.mono (known_any _) ?_); rintro e w1 ⟨rfl, hb1⟩; have q1 := hrow.below hb1 hrow.lt)
  have b1 := hb.trans (hb1.mono hb.size)
  clear hb hrow hb1
  have hsz1 := b1.size
  go_wp2
  go_loopw [15] (fun iv wr => ∃ i : Nat, iv = .int .i64 i ∧ i ≤ n ∧ (∀ j e, j < i → F[j]? = some e → e.name.size ≤ 100) ∧ Below w1.heap.size w1 wr) (fun iv _ => n - (intOf iv).toNat)
  case atStart => exact ⟨0, rfl, by omega, fun j e h => by omega, Below.refl _ _⟩
  case round =>
    obtain ⟨i, rfl, hi, hsm, b2⟩ := hrel
    by_cases hin : i < n
    · obtain ⟨e, hget⟩ : ∃ e, F[i]? = some e := ⟨_, List.getElem?_eq_getElem (by omega)⟩
      obtain ⟨b, o, rfl, hc⟩ := hf (by omega)
      have c1 := range0 (rangeAt_below (hc i e hget) (b1.trans (b2.mono hsz1)) (Nat.le_refl _))
      have hini : (i : Int) < n := by omega
      have he3 := (yf0 e (List.mem_of_getElem? hget)).2.2
      clear hc hf hz ha hs hr hcr
      by_cases h100 : e.name.size ≤ 100
      · have h100i : (e.name.size : Int) ≤ 100 := by omega
        have hsm2 : ∀ j x, j < i + 1 → F[j]? = some x → x.name.size ≤ 100 := fun j x h1 h2 => by
          by_cases hj : j < i
          · exact hsm j x hj h2
          · obtain rfl : j = i := by omega
            rw [hget] at h2; cases h2; exact h100
        clear hsm hget yf0
        go_wp2
        go_roundw
        case rel => exact ⟨i + 1, by go_num, by omega, hsm2, b2⟩
        case measure => simp [intOf]; omega
      · have h100i : (100 : Int) < e.name.size := by omega
        go_wp2
        go_ret
        exact ⟨rfl, b1.trans (b2.mono hsz1)⟩
    · obtain rfl : i = n := by omega
      have hsm2 : ∀ e ∈ F, e.name.size ≤ 100 := fun e he => by
        obtain ⟨j, hj⟩ := List.mem_iff_getElem?.1 he
        have := (List.getElem?_eq_some_iff.1 hj).1
        exact hsm j e (by omega) hj
      have yf : EntsOk F := fun e he => ⟨(yf0 e he).1, (yf0 e he).2.1, by have := hsm2 e he; omega⟩
      clear yf0
      have q2 := q1.below b2 q1.lt
      rw [hg0] at q2
      have b3 := b1.trans (b2.mono hsz1)
      clear hsm b1 b2 q1 hsz1
      obtain ⟨B0, hB0⟩ : ∃ B0, B0 = g0 + 1 := ⟨_, rfl⟩
      have hgB : g0 < B0 := by omega
      have hwB : w.heap.size ≤ B0 := by omega
      have hBr : B0 ≤ wr.heap.size := by have := q2.lt; omega
      clear hB0
      go_wp2
      go_loopw [16, 17] (fun lv iv wr => ∃ (i m : Nat) (E : List Ent) (sp : Option Addr) (cp : Nat) (nd : List Int), lv = .slice sp m cp ∧ iv = .int .i64 i ∧ i ≤ nz ∧ m ≤ i ∧ OwnE wr B0 (.slice sp m cp) m E ∧ (∀ e ∈ E, EntOk e ∧ e.name.size ≤ 49) ∧ E.length = m ∧ Row wr g0 23 (v8 nd) ∧ nd.length = 32 ∧ By nd ∧ Below w.heap.size w wr ∧ B0 ≤ wr.heap.size) (fun _ iv _ => nz - (intOf iv).toNat)
      case atStart => exact ⟨0, 0, [], none, 0, node, rfl, rfl, by omega, by omega, ownE_none _ _, fun e he => (by simp at he), rfl, q2, hnd, ynd, b3, hBr⟩
      case round =>
        obtain ⟨j, m, E, sp, cp, nd, rfl, rfl, hj, hm, ow, hg, hEl, q4, hndl, hndy, b4, hB4⟩ := hrel
        by_cases hjn : j < nz
        · obtain ⟨b, o, rfl, hc⟩ := (hz.below b4 (Nat.le_refl _)) (by omega)
          obtain ⟨q, c, h1, h2, h3⟩ := hc j (by omega)
          have hjni : (j : Int) < nz := by omega
          generalize zss.getD j [] = zs at *
          have hna := name_any zs q c wr h2 (by unfold maxLen at h3; omega)
          have hgs : EntOk ⟨nm zs, nd⟩ ∧ (nm zs).size ≤ 49 := ⟨⟨hndl, hndy, by have := nm_size zs; simp only; omega⟩, nm_size zs⟩
          clear hc h2 h3 hz hf yf hF ha hs hr hcr hsm2 q2 b3
          generalize nm zs = s at *
          generalize zs.length = zl at *
          go_upto_region 15 with (go_at_call 21; (with_reducible refine Calls.mono hna ?_); rintro e w2 ⟨rfl, hb2⟩)
          have ow2 := ow.below hb2 (Nat.le_refl _)
          have hE2 := ow2.ents (fun e he => (hg e he).1)
          have b5 := b4.trans (hb2.mono b4.size)
          have q5 := q4.below hb2 q4.lt
          have hB5 : B0 ≤ w2.heap.size := by have := hb2.size; omega
          clear ow b4 hna h1 hb2 q4 hB4
          have c0 := q5.cell8 (j := 0) (by omega)
          have f0 := q5.frozen (j := 0)
          have hi23 := info23 hndl
          obtain ⟨v, hv⟩ : ∃ v, (gi nd 0 + (j : Int)) % 256 = v := ⟨_, rfl⟩
          have hv' : Hid ((gi nd 0 + (j : Int)) % 256 = v) := ⟨hv⟩
          have hvb : 0 ≤ v ∧ v < 256 := by omega
          have hnl' : (nd.set 0 v).length = 32 := by simpa using hndl
          have hny' : By (nd.set 0 v) := fun x hx => by
            rcases List.mem_or_eq_of_mem_set hx with h | h
            · exact hndy x h
            · omega
          have hgE : ∀ x ∈ E ++ [⟨s, nd.set 0 v⟩], EntOk x ∧ x.name.size ≤ 49 := fun x hx => by
            rcases List.mem_append.1 hx with h | h
            · exact hg x h
            · obtain rfl : x = ⟨s, nd.set 0 v⟩ := by simpa using h
              exact ⟨⟨hnl', hny', hgs.1.2.2⟩, hgs.2⟩
          have hi23 := info23 hnl'
          clear hgs
          by_cases hm0 : m = 0
          · subst hm0
            obtain rfl : E = [] := List.eq_nil_of_length_eq_zero hEl
            clear hE2
            go_upto_region 17 with fail
            rw [hv]
            have q6 := q5.set8 0 v
            have b6 := b5.setCell (p := ⟨g0, 0, none⟩) (by simp only; omega) (.int .u8 v)
            have ow3 := (ow2.setLow (p := ⟨g0, 0, none⟩) hgB (.int .u8 v)).alloc (.cells (en ⟨s, nd.set 0 v⟩) 54)
            have hB6 : B0 ≤ (w2.setCell ⟨g0, 0, none⟩ (.int .u8 v)).heap.size := by simpa [World.setCell] using hB5
            change Code.wp _ _ _ _ (w2.setCell ⟨g0, 0, none⟩ (.int .u8 v))
            generalize w2.setCell ⟨g0, 0, none⟩ (.int .u8 v) = w3 at *
            generalize hnd' : nd.set 0 v = nd' at *
            have hB7 : B0 ≤ (w3.alloc (.cells (en ⟨s, nd'⟩) 54)).heap.size := by simp; omega
            have bA := b6.alloc b6.size (.cells (en ⟨s, nd'⟩) 54)
            have qA := q6.alloc (.cells (en ⟨s, nd'⟩) 54)
            clear q5 c0 f0 b5 ow2 hB5
            go_wp2_with (first | (refine wpList_load_row (by rfl) 23 (.tmp 9) (by rfl) g0 (by rfl) 23 (v8 nd') (0, 0) _ q6 Try.underlying23 rfl hi23 ?_) | (refine build54 (.tmp 91) (.tmp 92) (by rfl) (by rfl) s nd' (by rfl) (by rfl) hnl' ?_) | (refine bs54 (.tmp 93) (by rfl) (by rfl) ⟨s, nd'⟩ (by rfl) hnl' ?_) | (at_builtin; (refine append54 (.tmp 90) (.tmp 94) (by rfl) (by rfl) B0 (.slice sp 0 cp) 0 ([] : List Ent) (by rfl) ow3 w3.heap.size ⟨s, nd'⟩ (by rfl) hnl' (Row.new _ _ _) (by omega) hB7 ?_; intro sp2 cp2 w4 ow4 b8)))
            go_roundw
            case rel => exact ⟨j + 1, 0 + 1, ([] : List Ent) ++ [⟨s, nd'⟩], sp2, cp2, nd', by first | rfl | (rw [Nat.zero_add]), by go_num, by omega, by omega, ow4, hgE, by simp [hEl], qA.below b8 hgB, hnl', hny', bA.trans (b8.mono hwB), by have := b8.size; omega⟩
            case measure => simp [intOf]; omega
          · obtain ⟨m, rfl⟩ : ∃ k, m = k + 1 := ⟨m - 1, by omega⟩
            obtain ⟨g, og, rfl, hcE⟩ := hE2 (by omega)
            obtain ⟨e, hget⟩ : ∃ e, E[m]? = some e := ⟨_, List.getElem?_eq_getElem (by omega)⟩
            have c1 := range0 (hcE m _ hget)
            clear hcE hget hE2
            have hmi : ((m : Int) + 1 == 0) = false := by simp; omega
            cases hq : Op.bytesLess e.name.toList s.toList
            · clear hgE hny' hnl' hi23
              go_wp2
              go_roundw
              case rel => exact ⟨j + 1, m + 1, E, _, cp, nd, rfl, by go_num, by omega, by omega, ow2, hg, hEl, q5, hndl, hndy, b5, hB5⟩
              case measure => simp [intOf]; omega
            · go_upto_region 17 with fail
              rw [hv]
              have q6 := q5.set8 0 v
              have b6 := b5.setCell (p := ⟨g0, 0, none⟩) (by simp only; omega) (.int .u8 v)
              have ow3 := (ow2.setLow (p := ⟨g0, 0, none⟩) hgB (.int .u8 v)).alloc (.cells (en ⟨s, nd.set 0 v⟩) 54)
              have hB6 : B0 ≤ (w2.setCell ⟨g0, 0, none⟩ (.int .u8 v)).heap.size := by simpa [World.setCell] using hB5
              change Code.wp _ _ _ _ (w2.setCell ⟨g0, 0, none⟩ (.int .u8 v))
              generalize w2.setCell ⟨g0, 0, none⟩ (.int .u8 v) = w3 at *
              generalize hnd' : nd.set 0 v = nd' at *
              have hB7 : B0 ≤ (w3.alloc (.cells (en ⟨s, nd'⟩) 54)).heap.size := by simp; omega
              have bA := b6.alloc b6.size (.cells (en ⟨s, nd'⟩) 54)
              have qA := q6.alloc (.cells (en ⟨s, nd'⟩) 54)
              clear q5 c0 f0 b5 ow2 hB5
              go_wp2_with (first | (refine wpList_load_row (by rfl) 23 (.tmp 9) (by rfl) g0 (by rfl) 23 (v8 nd') (0, 0) _ q6 Try.underlying23 rfl hi23 ?_) | (refine build54 (.tmp 91) (.tmp 92) (by rfl) (by rfl) s nd' (by rfl) (by rfl) hnl' ?_) | (refine bs54 (.tmp 93) (by rfl) (by rfl) ⟨s, nd'⟩ (by rfl) hnl' ?_) | (at_builtin; (refine append54 (.tmp 90) (.tmp 94) (by rfl) (by rfl) B0 (.slice (some ⟨g, og, none⟩) (m + 1) cp) (m + 1) E (by rfl) ow3 w3.heap.size ⟨s, nd'⟩ (by rfl) hnl' (Row.new _ _ _) (by omega) hB7 ?_; intro sp2 cp2 w4 ow4 b8)))
              go_roundw
              case rel => exact ⟨j + 1, (m + 1) + 1, E ++ [⟨s, nd'⟩], sp2, cp2, nd', by first | rfl | (rw [Nat.zero_add]), by go_num, by omega, by omega, ow4, hgE, by simp [hEl], qA.below b8 hgB, hnl', hny', bA.trans (b8.mono hwB), by have := b8.size; omega⟩
              case measure => simp [intOf]; omega
        · obtain rfl : j = nz := by omega
          have hEok : EntsOk E := fun e he => (hg e he).1
          have hEs : ∀ e ∈ E, e.name.size ≤ 100 := fun e he => by have := (hg e he).2; omega
          have hEE := ow.ents hEok
          have hFF := hf.below b4 (Nat.le_refl _)
          clear hz hj hjn hg ow q2 b3 hBr
          have r5 : Row (wr.alloc (.cells #[.slice sp m cp, .slice pf i cf] 51)) wr.heap.size 51 #[.slice sp m cp, .slice pf i cf] := Row.new _ _ _
          have bz : Below wr.heap.size wr (wr.alloc (.cells #[.slice sp m cp, .slice pf i cf] 51)) := (Below.refl _ _).alloc (Nat.le_refl _) _
          have b5 := b4.trans (bz.mono b4.size)
          have hE5 := hEE.below bz (Nat.le_refl _)
          have hF5 := hFF.below bz (Nat.le_refl _)
          go_upto_region 19 with fail
          change Code.wp _ _ _ _ (wr.alloc (.cells #[.slice sp m cp, .slice pf i cf] 51))
          generalize wr.alloc (.cells #[.slice sp m cp, .slice pf i cf] 51) = w5 at *
          generalize wr.heap.size = GR at *
          have hrows : ∀ k : Nat, k < 2 → ∃ (T : List Ent) (tp : Option Addr) (tn tc : Nat), w5.cell? ⟨GR, k, none⟩ = some (.slice tp tn tc) ∧ Ents w5 tp T ∧ T.length = tn ∧ EntsOk T ∧ (∀ e ∈ T, e.name.size ≤ 100) ∧ tn ≤ 25 := fun k hk => by
            rcases (by omega : k = 0 ∨ k = 1) with rfl | rfl
            · exact ⟨E, sp, m, cp, r5.cell, hE5, hEl, hEok, hEs, by omega⟩
            · exact ⟨F, pf, i, cf, r5.cell, hF5, hF, yf, hsm2, by omega⟩
          have ha5 := ha.below b5 (Nat.le_refl _)
          have hs5 := hs.below b5
          have hr5 := hr.below b5
          have hGlt := r5.lt
          have hb5 := b5.size
          clear bz hEE hFF hE5 hF5 hEok hEs hEl yf hsm2 hF q4 hndl hndy ynd hnd hf ha hs hr b4 r5 hm hB4 hgB hwB
          go_wp2
          go_loopw [20] (fun kv wr => ∃ k : Nat, k ≤ 2 ∧ kv = .int .i64 k ∧ Below w5.heap.size w5 wr) (fun kv _ => 2 - (intOf kv).toNat)
          case atStart => exact ⟨0, by omega, rfl, Below.refl _ _⟩
          case round =>
            obtain ⟨k, hk, rfl, bk⟩ := hrel
            by_cases hk2 : k < 2
            · obtain ⟨T, tp, tn, tc, hcell, hT, hTl, hTok, hTs, htn⟩ := hrows k hk2
              have hk2i : (k : Int) < 2 := by omega
              have hck : wr.cell? ⟨GR, k, none⟩ = some (.slice tp tn tc) := by rw [bk.cell (p := ⟨GR, k, none⟩) hGlt]; exact hcell
              have hTk := hT.below bk (Nat.le_refl _)
              have hin := fun wx (h : Ents wx tp T) => dir_any T tn tp tc wx hTl h hTok (by omega) hTs
              have hrin := fun wx (h : Ents wx tp T) => rdir_any T tn tp tc wx hTl h hTok (by omega) hTs
              obtain ⟨yL, lL, hend⟩ := outD_facts hTok hTs
              clear hrows hcell hT
              generalize outD T = L at *
              generalize chkE T = EE at *
              unfold Gives at hin hrin
              obtain ⟨nL, hnL⟩ : ∃ nL, L.length = nL := ⟨_, rfl⟩
              rw [hnL] at hin hrin lL
              go_upto_region 24 with (first | (go_at_call 22; (with_reducible refine Calls.mono (hin _ hTk) ?_); rintro e w6 ⟨sA, cA, rfl, oA, hb6⟩; have hT6 := hTk.below hb6 (Nat.le_refl _); have hc6 : w6.cell? ⟨GR, k, none⟩ = some (.slice tp tn tc) := (by rw [hb6.cell (p := ⟨GR, k, none⟩) (by have := bk.size; simp only; omega)]; exact hck)) | (go_at_call 23; (with_reducible refine Calls.mono (hrin _ hT6) ?_); rintro e w7 ⟨sB, cB, rfl, oB, hb7⟩))
              have oA7 := oA.below hb7 (Nat.le_refl _)
              have b7 : Below wr.heap.size wr w7 := hb6.trans (hb7.mono hb6.size)
              have b7' : Below w5.heap.size w5 w7 := bk.trans (b7.mono bk.size)
              have hsA := run_str w7 sA nL cA L hnL oA7.bytes
              have hsB := run_str w7 sB nL cB L hnL oB.bytes
              have kB := (own8_take oB).2
              have nB := own_nil0 oB
              have hben := bend_any L al bl raw sB pa ps pr nL na ns nr cB ca cs cr cut w7 oB.bytes hnL nB yL (by omega) (ha5.below b7' (Nat.le_refl _)) hna (by omega) (hs5.below b7') hns ys (by omega) (hr5.below b7') hnr hcr yr (by omega)
              clear oA oA7 hin hrin hT6 hc6 hb6
              generalize hSL : strOfNums L = SL at hsA hsB
              clear hSL
              go_upto_region 27 with (go_at_call 13; (with_reducible refine Calls.mono hben ?_); rintro e w8 ⟨G, X, Y, px, py, cx, cy, hB⟩; obtain rfl := hB.said)
              have hat := fun i hi => hB.at oB.bytes hnL (by omega) yL (hr5.below b7') hnr kr yr (by omega) i hi
              have hG := hB.row.lt
              have b8 : Below w5.heap.size w5 w8 := b7'.trans (hB.below.mono b7'.size)
              have b8k : Below wr.heap.size wr w8 := b7.trans (hB.below.mono b7.size)
              have hT8 := hTk.below b8k (Nat.le_refl _)
              have hc8 : w8.cell? ⟨GR, k, none⟩ = some (.slice tp tn tc) := by rw [b8k.cell (p := ⟨GR, k, none⟩) (by have := bk.size; simp only; omega)]; exact hck
              have hGR8 : GR < w8.heap.size := by have := b8.size; omega
              clear hben oB hB b7 b7' hb7 hsA hsB nB kB hTk hck b8k
              go_wp2
              go_loopw [26] (fun iv wr => ∃ q : Nat, q ≤ 4 ∧ iv = .int .i64 q ∧ Below w8.heap.size w8 wr) (fun iv _ => 4 - (intOf iv).toNat)
              case atStart => exact ⟨0, by omega, rfl, Below.refl _ _⟩
              case round =>
                obtain ⟨q, hq, rfl, hbr⟩ := hrel
                by_cases hq4 : q < 4
                · obtain ⟨zp, zc, Z, hc, hyZ, yZ, lZ, kZ, hZL⟩ := hat q hq4
                  have hcr' : wr.cell? ⟨G, q, none⟩ = some (.slice zp Z.length zc) := by rw [hbr.cell (p := ⟨G, q, none⟩) hG]; exact hc
                  have hyr := hyZ.below hbr
                  have hp := pdir_any Z zp Z.length zc wr rfl lZ kZ hyr yZ
                  have hrp := fun wx (h : Below wr.heap.size wr wx) => rpdir_any Z zp Z.length zc wx rfl lZ kZ (hyr.below h) yZ
                  have hDm := dOut_many Z
                  have hend2 : q = 3 → EE = 0 → dOut Z = T := fun h1 h2 => by rw [hZL h1]; exact hend h2
                  have hTr := hT8.below hbr (Nat.le_refl _)
                  have hcT : wr.cell? ⟨GR, k, none⟩ = some (.slice tp tn tc) := by rw [hbr.cell (p := ⟨GR, k, none⟩) hGR8]; exact hc8
                  unfold ReadsD at hp hrp
                  clear hat hend hZL hc hyZ hyr
                  generalize dOut Z = D at *
                  generalize dErr Z = PE at *
                  generalize hDl : D.length = dl at *
                  generalize Z.length = lz at *
                  go_upto_region 31 with (go_at_call 24; (with_reducible refine Calls.mono hp ?_); rintro e w9 ⟨s9, c9, rfl, B9, hDok, hb9⟩)
                  have hc9 : w9.cell? ⟨G, q, none⟩ = some (.slice zp lz zc) := by rw [hb9.cell (p := ⟨G, q, none⟩) (by have := hbr.size; simp only; omega)]; exact hcr'
                  have hrp9 := hrp w9 hb9
                  go_upto_region 32 with (go_at_call 25; (with_reducible refine Calls.mono hrp9 ?_); rintro e w10 ⟨s10, c10, rfl, B10, _, hb10⟩)
                  have B910 := B9.below hb10 (Nat.le_refl _)
                  have b10 := hb9.trans (hb10.mono hb9.size)
                  have hT10 := hTr.below b10 (Nat.le_refl _)
                  have hcT10 : w10.cell? ⟨GR, k, none⟩ = some (.slice tp tn tc) := by rw [b10.cell (p := ⟨GR, k, none⟩) (by have := hbr.size; simp only; omega)]; exact hcT
                  have hids := fun wx p q c d (h1 : Ents wx p D) (h2 : Ents wx q D) => entries_any D dl p q c d wx hDl (by omega) hDok h1 h2
                  have hids10 := hids w10 s9 s10 c9 c10 B910 B10
                  clear hc9 hrp hrp9 hp B9 B10
                  by_cases h3 : q = 3
                  · subst h3
                    by_cases hE0 : EE = 0
                    · obtain rfl := hend2 rfl hE0
                      have hEb : (EE == 0) = true := by simpa using hE0
                      obtain rfl : tn = dl := by omega
                      clear hend2 hE0
                      go_wp2_with (first | (go_at_call 26; (with_reducible refine Calls.mono hids10 ?_); rintro e w11 ⟨rfl, hb11⟩; have B11 := B910.below hb11 (Nat.le_refl _); have hT11 := hT10.below hb11 (Nat.le_refl _); have hcT11 : w11.cell? ⟨GR, k, none⟩ = some (.slice tp tn tc) := (by rw [hb11.cell (p := ⟨GR, k, none⟩) (by have := b10.size; have := hbr.size; simp only; omega)]; exact hcT10); have b11 := b10.trans (hb11.mono b10.size); have hids11 := hids w11 s9 tp c9 tc B11 hT11) | (go_at_call 26; (with_reducible refine Calls.mono hids11 ?_); rintro e w12 ⟨rfl, hb12⟩))
                      go_roundw
                      case rel => exact ⟨4, by omega, by go_num, hbr.trans ((b11.trans (hb12.mono b11.size)).mono hbr.size)⟩
                      case measure => simp [intOf]
                    · have hEb : (EE == 0) = false := by simpa using hE0
                      clear hend2 hE0
                      go_wp2_with (go_at_call 26; (with_reducible refine Calls.mono hids10 ?_); rintro e w11 ⟨rfl, hb11⟩)
                      go_roundw
                      case rel => exact ⟨4, by omega, by go_num, hbr.trans ((b10.trans (hb11.mono b10.size)).mono hbr.size)⟩
                      case measure => simp [intOf]
                  · have h3b : ((q : Int) == 3) = false := by simp; omega
                    clear hend2
                    go_wp2_with (go_at_call 26; (with_reducible refine Calls.mono hids10 ?_); rintro e w11 ⟨rfl, hb11⟩)
                    go_roundw
                    case rel => exact ⟨q + 1, by omega, by go_num, hbr.trans ((b10.trans (hb11.mono b10.size)).mono hbr.size)⟩
                    case measure => simp [intOf]; omega
                · obtain rfl : q = 4 := by omega
                  have bk2 := b8.trans (hbr.mono b8.size)
                  clear hat hend
                  go_wp2
                  go_roundw
                  case rel => exact ⟨k + 1, by omega, by go_num, bk2⟩
                  case measure => simp [intOf]; omega
            · obtain rfl : k = 2 := by omega
              go_wp2
              go_ret
              exact ⟨rfl, b5.trans (bk.mono b5.size)⟩
end Go.Proofs.Ytgcffdnbihfghaa
