/- The hash of a slice of bytes: Sum answers the plain function 'shaS', and turns no old memory; for every slice of bytes of at most 2^56, where firstState and roundWords hold what the text lays. -/
import Derived.Test.YtoebnkepeledmaaDoorGb
namespace Go.Proofs.YtoebnkepeledmaaDoor
open Go.RowKit

def kWords : List Int := [0x428a2f98, 0x71374491, 0xb5c0fbcf, 0xe9b5dba5, 0x3956c25b, 0x59f111f1, 0x923f82a4, 0xab1c5ed5,
  0xd807aa98, 0x12835b01, 0x243185be, 0x550c7dc3, 0x72be5d74, 0x80deb1fe, 0x9bdc06a7, 0xc19bf174,
  0xe49b69c1, 0xefbe4786, 0x0fc19dc6, 0x240ca1cc, 0x2de92c6f, 0x4a7484aa, 0x5cb0a9dc, 0x76f988da,
  0x983e5152, 0xa831c66d, 0xb00327c8, 0xbf597fc7, 0xc6e00bf3, 0xd5a79147, 0x06ca6351, 0x14292967,
  0x27b70a85, 0x2e1b2138, 0x4d2c6dfc, 0x53380d13, 0x650a7354, 0x766a0abb, 0x81c2c92e, 0x92722c85,
  0xa2bfe8a1, 0xa81a664b, 0xc24b8b70, 0xc76c51a3, 0xd192e819, 0xd6990624, 0xf40e3585, 0x106aa070,
  0x19a4c116, 0x1e376c08, 0x2748774c, 0x34b0bcb5, 0x391c0cb3, 0x4ed8aa4a, 0x5b9cca4f, 0x682e6ff3,
  0x748f82ee, 0x78a5636f, 0x84c87814, 0x8cc70208, 0x90befffa, 0xa4506ceb, 0xbef9a3f7, 0xc67178f2]
def s0 : S8 := ⟨0x6a09e667, 0xbb67ae85, 0x3c6ef372, 0xa54ff53a, 0x510e527f, 0x9b05688c, 0x1f83d9ab, 0x5be0cd19⟩
def whole (n : Nat) : Nat := n - n % 64
def endLen (n : Nat) : Nat := if n % 64 < 56 then 64 else 128
theorem endLen_spec (n : Nat) : (endLen n = 64 ∨ endLen n = 128) ∧ endLen n % 64 = 0 ∧ endLen n ≤ 128 := by unfold endLen; split <;> simp
def shaS (bs : List Int) : List Int :=
  idS (absorbS kWords (absorbS kWords s0 (bs.take (whole bs.length))) ((endS (bs.drop (whole bs.length)) (endLen bs.length) (bs.length * 8)).take (endLen bs.length)))

/-- What the two listed variables hold. -/
def Laid (w : World) : Prop := GRow w 0 s0.row ∧ GRow w 1 (v32 kWords)
theorem Laid.below {w w' : World} (h : Laid w) (hb : Below w.heap.size w w') : Laid w' := ⟨h.1.below hb h.1.lt, h.2.below hb h.2.lt⟩

theorem Bytes.mapAdd {w : World} {sp : Option Addr} {cs : List Int} (h : Bytes w sp cs) (n : Nat) : Bytes w (sp.map (fun x => x.add n)) (cs.drop n) := by
  cases sp with
  | none =>
    intro hp
    simp only [List.length_drop] at hp
    obtain ⟨b, o, e, _⟩ := h (by omega)
    cases e
  | some ad =>
    intro hp
    simp only [List.length_drop] at hp
    obtain ⟨b, o, e, hc⟩ := h (by omega)
    cases e
    have := Bytes.drop (w := w) (b := b) (o := o) (cs := cs) h n (by simp; omega)
    simpa [Addr.add_mid] using this
theorem Row.bytes {w : World} {g : Nat} {t : TypeId} {l : List Int} (h : Row w g t (v8 l)) : Bytes w (some ⟨g, 0, none⟩) l := fun _ => ⟨g, 0, rfl, fun j hj => by rw [Nat.zero_add]; exact h.cell8 hj⟩

theorem ending_any (rs : List Int) (sp : Option Addr) (len cap size : Nat) (w : World) (hlen : rs.length = len) (hr : len = size % 64) (hsz : size ≤ 72057594037927936) (hby : Bytes w sp rs) :
    Calls Tryd.prog 70 #[.slice sp len cap, .int .i64 size] w fun e w' => e = .returned (.tuple #[.agg (v8 (endS rs (endLen size) (size * 8))), .int .i64 (endLen size)]) ∧ Below w.heap.size w w' := by
  unfold endLen
  by_cases h : size % 64 < 56
  · rw [if_pos h]; exact ending_a rs sp len cap size w hlen (by omega) hsz hby
  · rw [if_neg h]; exact ending_b rs sp len cap size w hlen (by omega) (by omega) hsz hby

theorem info37 (s : S8) : (Tryd.prog.info? 111).map (·.size) = some s.row.size := by rw [S8.row_size]; kernel_rfl

set_option maxRecDepth 20000 in
set_option maxHeartbeats 1000000 in
theorem sum_any (bs : List Int) (sp : Option Addr) (len cap : Nat) (w : World) (hlen : bs.length = len) (hcap : len ≤ cap) (hmax : len ≤ 72057594037927936)
    (hl : Laid w) (hby : Bytes w sp bs) :
    Calls Tryd.prog 59 #[.slice sp len cap] w fun e w' => e = .returned (.agg (v8 (shaS bs))) ∧ Below w.heap.size w w' := by
  obtain ⟨l0, l1⟩ := hl
  have hlt := l0.lt
  have hw : (whole len) ≤ len := by unfold whole; omega
  have hwi : (len : Int) - (len : Int) % 64 = ((whole len : Nat) : Int) := by unfold whole; omega
  have hHl : (bs.take (whole len)).length = whole len := by simp; omega
  have hHb : Bytes w sp (bs.take (whole len)) := hby.take _
  have hwm : whole len % 64 = 0 := by unfold whole; omega
  have hlt0 : 0 < w.heap.size := by omega
  have hlt1 := l1.lt
  have hcall : ∀ wx, Below w.heap.size w wx → Calls Tryd.prog 69 #[.agg s0.row, .slice sp (whole len) cap] wx fun e w' => e = .returned (.agg (absorbS kWords s0 (bs.take (whole len))).row) ∧ Below wx.heap.size wx w' := fun wx hb =>
    absorb_any kWords s0 (bs.take (whole len)) sp (whole len) cap wx hHl hwm (by omega) (by omega) rfl (l1.below hb (by omega)) (hHb.below hb)
  go_enter Tryd.func59, Tryd.ntmps59
  go_wp2
  have r0 : Row (w.alloc (.cells (v8 (List.replicate 32 0)) 24)) w.heap.size 24 (v8 (List.replicate 32 0)) := Row.new _ _ _
  have b0 : Below w.heap.size w (w.alloc (.cells (v8 (List.replicate 32 0)) 24)) := (Below.refl _ _).alloc (Nat.le_refl _) _
  have hs0 : (w.alloc (.cells (v8 (List.replicate 32 0)) 24)).heap.size = w.heap.size + 1 := by simp
  change Code.wp _ _ _ _ (w.alloc (.cells (v8 (List.replicate 32 0)) 24))
  generalize w.alloc (.cells (v8 (List.replicate 32 0)) 24) = w1 at r0 b0 hs0 ⊢
  refine region_alloc 5 111 S8.zero.row 4 (by kernel_rfl) (by kernel_rfl) (by rfl) (by kernel_rfl) ?hal ?hh
  case hal =>
    intro a w o ho
    cases ho
    kernel_rfl
  case hh =>
    apply Exists.intro
    refine ⟨fun ι _ W hb hc => ?_, fun b w2 hb2 hbel2 hrow => ?_⟩
    · have hbW : ∀ i, Below w.heap.size w (W i) := fun i => b0.trans ((hb i).mono (by omega))
      have hrW : ∀ i, GRow (W i) 0 s0.row := fun i => l0.below (hbW i) l0.lt
      simp only [List.take_succ_cons, List.take_zero]
      refine q_load_grow 111 (.global 0) (by rfl) (by rfl) 0 (by rfl) s0.row _ hrW Tryd.underlying111 rfl (info37 _) ?_
      simp only [Act.put, List.setIfInBounds_toArray, List.set_cons_succ, List.set_cons_zero]
      repeat (go_big_quiet_step ((go_at_call 69; exact (hcall _ (hbW _)).mono (fun e w' ⟨he, hw⟩ => ⟨he, hc _ _ hw⟩))))
      exact wpQuiet_nil rfl
    · simp only [List.drop_succ_cons, List.drop_zero, Act.put, List.setIfInBounds_toArray, List.set_cons_succ, List.set_cons_zero]
      refine store_row0 111 (.tmp 4) (.tmp 17) (by rfl) (by rfl) (by rfl) b (absorbS kWords s0 (bs.take (whole len))).row (by rfl) (by rfl) 111 _ hrow (info37 _) rfl (S8.row_one _) ?_
      have q0 := hrow.setRow (absorbS kWords s0 (bs.take (whole len))).row
      have q1 := (r0.below hbel2 (by omega)).setRowOther (g := b) (by omega) (absorbS kWords s0 (bs.take (whole len))).row
      have qb := below_setRow (g := b) (b0.trans (hbel2.mono (by omega))) (by omega) (absorbS kWords s0 (bs.take (whole len))).row
      generalize w2.setRow b (absorbS kWords s0 (bs.take (whole len))).row = w3 at q0 q1 qb ⊢
      clear hrow hbel2 r0 b0 hcall hHb
      have hq0 := q0.lt
      have hdl : (bs.drop (whole len)).length = len - whole len := by simp; omega
      have hE : ∀ sp' cap', Bytes w3 sp' (bs.drop (whole len)) → Calls Tryd.prog 70 #[.slice sp' (len - whole len) cap', .int .i64 len] w3 fun e w' => e = .returned (.tuple #[.agg (v8 (endS (bs.drop (whole len)) (endLen len) (len * 8))), .int .i64 (endLen len)]) ∧ Below w3.heap.size w3 w' :=
        fun sp' cap' hb' => ending_any _ _ _ _ _ _ hdl (by unfold whole; omega) (by omega) hb'
      have hzv : ∀ wx, (zeroValue 113).run Tryd.prog wx = .ok (.agg (v8 zeros128)) wx := fun wx => by kernel_rfl
      have hd128 : (bs.drop (whole len)).length ≤ 128 := by rw [hdl]; unfold whole; omega
      have h39 : (Tryd.prog.info? 113).map (·.size) = some (v8 (endS (bs.drop (whole len)) (endLen len) (len * 8))).size := by rw [v8_size]; unfold endS; rw [endN_length _ _ _ hd128]; kernel_rfl
      have hold : (v8 zeros128).size = (v8 (endS (bs.drop (whole len)) (endLen len) (len * 8))).size := by rw [v8_size, v8_size]; unfold endS; rw [endN_length _ _ _ hd128]; rfl
      have hB1 : cap = whole len → Bytes w3 sp (bs.drop (whole len)) := fun e => by
        have : bs.drop (whole len) = [] := List.eq_nil_of_length_eq_zero (by omega)
        rw [this]; exact Bytes.nil _ _
      have hB2 : Bytes w3 (sp.map (fun x => x.add (whole len))) (bs.drop (whole len)) := (hby.below qb).mapAdd _
      go_wp2_with fail
      all_goals
        first
          | refine Calls.mono (hE _ _ (hB1 (by assumption))) ?_
          | refine Calls.mono (hE _ _ hB2) ?_
        rintro e w4 ⟨rfl, hb4⟩
        have hq4 := hb4.size
        clear hE hB1 hB2 hby
        go_wp2_with (refine store_row0 113 (.tmp 5) (.tmp 25) (by rfl) (by rfl) (by rfl) w4.heap.size (v8 (endS (bs.drop (whole len)) (endLen len) (len * 8))) (by rfl) (by rfl) 113 (v8 zeros128) (Row.new w4 113 _) h39 hold (v8_one _) ?_)
      all_goals
        have hel := endLen_spec len
        have hE1 : (endS (bs.drop (whole len)) (endLen len) (len * 8)).length = 128 := endN_length _ _ _ hd128 _
        have p0 := (q0.below hb4 hq0).alloc (.cells (v8 zeros128) 113) |>.setRowOther (g := w4.heap.size) (by omega) (v8 (endS (bs.drop (whole len)) (endLen len) (len * 8)))
        have p1 := (q1.below hb4 q1.lt).alloc (.cells (v8 zeros128) 113) |>.setRowOther (g := w4.heap.size) (by have := q1.lt; omega) (v8 (endS (bs.drop (whole len)) (endLen len) (len * 8)))
        have p2 := (Row.new w4 113 (v8 zeros128)).setRow (v8 (endS (bs.drop (whole len)) (endLen len) (len * 8)))
        have pb : Below w.heap.size w ((w4.alloc (.cells (v8 zeros128) 113)).setRow w4.heap.size (v8 (endS (bs.drop (whole len)) (endLen len) (len * 8)))) :=
          below_setRow ((qb.trans (hb4.mono (by omega))).alloc (by omega) _) (by omega) _
        generalize (w4.alloc (.cells (v8 zeros128) 113)).setRow w4.heap.size (v8 (endS (bs.drop (whole len)) (endLen len) (len * 8))) = w5 at p0 p1 p2 pb ⊢
        clear q0 q1 qb hb4 h39 hold hzv
        refine region_tail 5 (by kernel_rfl) (by kernel_rfl) (by kernel_rfl) ?_
        apply Exists.intro
        refine ⟨fun ι _ W hb hc => ?_, fun w6 hb6 => ?_⟩
        · have t0 : ∀ i, Row (W i) b 111 (absorbS kWords s0 (bs.take (whole len))).row := fun i => p0.below (hb i) p0.lt
          have hcall : ∀ i, Calls Tryd.prog 69 #[.agg (absorbS kWords s0 (bs.take (whole len))).row, .slice (some ⟨w4.heap.size, 0, none⟩) (endLen len) 128] (W i) fun e w' => e = .returned (.agg (absorbS kWords (absorbS kWords s0 (bs.take (whole len))) ((endS (bs.drop (whole len)) (endLen len) (len * 8)).take (endLen len))).row) ∧ Below (W i).heap.size (W i) w' := fun i =>
            absorb_any kWords _ _ _ _ _ (W i) (by rw [List.length_take, hE1]; omega) hel.2.1 hel.2.2 (by omega) rfl (l1.below (pb.trans ((hb i).mono pb.size)) l1.lt) ((p2.below (hb i) p2.lt).bytes.take _)
          have he1 : (endLen len : Int) ≤ 128 := by omega
          simp only [List.take_succ_cons, List.take_zero]
          refine q_load_row 111 (.tmp 4) (by rfl) (by rfl) b (by rfl) 111 _ _ t0 Tryd.underlying111 rfl (info37 _) ?_
          simp only [Act.put, List.setIfInBounds_toArray, List.set_cons_succ, List.set_cons_zero]
          repeat (go_big_quiet_step (first | (go_at_call 69; exact (hcall _).mono (fun e w' ⟨he, hw⟩ => ⟨he, hc _ _ hw⟩)) | (go_at_call 71; exact (idOf_any _ _).mono (fun e w' ⟨he, hw⟩ => ⟨he, hc _ _ hw⟩))))
          exact wpQuiet_nil rfl
        · simp only [List.drop_succ_cons, List.drop_zero]
          have hsz : ∀ l : S8, (Tryd.prog.info? 24).map (·.size) = some (v8 (idS l)).size := fun l => by rw [v8_size, show (idS l).length = 32 from idN_length l 8 (by omega)]; kernel_rfl
          have hsz' : ∀ l : S8, (v8 (List.replicate 32 0)).size = (v8 (idS l)).size := fun l => by rw [v8_size, v8_size, show (idS l).length = 32 from idN_length l 8 (by omega)]; simp
          have t1 := p1.below hb6 p1.lt
          refine store_row0 24 (.tmp 2) (.tmp 31) (by rfl) (by rfl) (by rfl) w.heap.size _ (by rfl) (by rfl) 24 _ t1 (hsz _) (hsz' _) (v8_one _) ?_
          go_wp2
          refine bodyPost_ret (results_cell_row Tryd.results59 _ _ w.heap.size 24 _ (0, 0) _ rfl (t1.setRow _) Tryd.underlying24 rfl (hsz _)) rfl ⟨?_, below_setRow (pb.trans (hb6.mono pb.size)) (Nat.le_refl _) _⟩
          unfold shaS; rw [hlen]
end Go.Proofs.YtoebnkepeledmaaDoor
