/- Small facts for the walks of blobs: so many noughts, texts of bytes, rows spliced. No condition. -/
import Derived.Test.YtgcffdnbihfghaaBase
import Derived.Test.YtgcffdnbihfghaaMild
import Derived.Test.YtgcffdnbihfghaaArrEq
import Derived.Test.YtgcffdnbihfghaaArg
namespace Go.Proofs.Ytgcffdnbihfghaa
open Go Go.RowKit
theorem madeCells_rep (z : Value) (n : Nat) (hz : z.cells = #[z]) : madeCells z.cells n = (List.replicate n z).toArray := by
  apply Array.ext
  · simp [size_madeCells]
  · intro i h1 h2
    simp [madeCells, hz, Nat.mod_one]
/-- So many noughts. -/
def zer (n : Nat) : List Int := List.replicate n 0
theorem zer_len (n : Nat) : (zer n).length = n := List.length_replicate
theorem make8 (n : Nat) (k : Int) (hk : k = n) (hn : n ≤ 1099511627776) (W : World) : (Instr.makeSlice 27 (.int .i64 k) (.int .i64 k)).run Try.prog W = .ok (.slice (some ⟨W.heap.size, 0, none⟩) n n) (W.alloc (.cells (v8 (zer n)) 5)) := by
  obtain ⟨i, hi, hz, h1, h2⟩ : ∃ i, Try.prog.info? 5 = some i ∧ i.zero = some (.int .u8 0) ∧ i.size = 1 ∧ i.bytes = 1 := by
    have hinfo := info5
    cases hq : Try.prog.info? 5 with
    | none => simp [hq] at hinfo
    | some i => simp [hq] at hinfo; exact ⟨i, rfl, hinfo.1, hinfo.2.1, hinfo.2.2⟩
  subst hk
  rw [run_make W 27 5 i (.int .u8 0) Try.underlying27 hi hz .i64 .i64 n n (by omega) (by omega) (by rw [h2]; omega) (by omega), madeCells_rep _ _ rfl, h1]
  simp [v8, zer]
theorem run_str (w : World) (sp : Option Addr) (n cap : Nat) (cs : List Int) (hn : cs.length = n) (hb : Bytes w sp cs) : (convert 27 9 (.slice sp n cap)).run Try.prog w = .ok (.string (strOfNums cs)) w := by
  subst hn
  by_cases h : 0 < cs.length
  · obtain ⟨b, o, rfl, hc⟩ := hb h
    exact run_convert_bytes_arg w 27 5 Try.underlying27 Try.underlying5 b o _ cap cs rfl hc 9 Try.underlying9
  · have h0 : cs = [] := List.eq_nil_of_length_eq_zero (by omega)
    subst h0
    rw [run_convert_bytes_string w 27 9 5 sp _ cap Try.underlying27 Try.underlying5 Try.underlying9]
    cases sp <;> simp [Conv.bytesToString, strOfNums, loadCells, loadCellsFrom] <;> rfl
theorem below_setRow {w0 w : World} {B g : Nat} (h : Below B w0 w) (hg : B ≤ g) (cs : Array Value) : Below B w0 (w.setRow g cs) :=
  ⟨h.os, h.tape, h.output, by have := h.size; simpa [World.setRow] using this, fun k hk => by rw [setRow_other w g k cs (by omega)]; exact h.block k hk⟩
theorem Fr.setRow {l : List Nat} {a b : World} (h : Fr l a b) (g : Nat) (hg : g ∈ l) (cs : Array Value) : Fr l a (b.setRow g cs) :=
  h.trans ⟨rfl, rfl, rfl, by simp [World.setRow], fun k _ hn => setRow_other b g k cs (fun e => hn (by rw [← e] at hg; exact hg))⟩
theorem own8_row {w : World} {b n : Nat} {bs : List Int} (h : Row w b 5 (v8 bs)) (hn : bs.length = n) (hl : n ≤ maxLen) : Own8 w b 5 (.slice (some ⟨b, 0, none⟩) n n) bs := by
  subst hn
  unfold Own8 World.ownsRow
  refine ⟨by simp, .inr ⟨b, bs.length, v8 bs, rfl, Nat.le_refl _, h, Nat.le_refl _, hl, by simp [v8_size], by simp [v8, List.take_of_length_le]⟩⟩
theorem spl_zero (n : Nat) (x : List Int) : spl (List.replicate n 0) 0 x = x ++ List.replicate (n - x.length) 0 := by simp [spl]
theorem spl_end (x y : List Int) (n : Nat) (hn : n = y.length) : spl (x ++ List.replicate n 0) x.length y = x ++ y := by subst hn; simp [spl]
theorem spl_mid (x y : List Int) (n : Nat) : spl (x ++ List.replicate n 0) x.length y = x ++ y ++ List.replicate (n - y.length) 0 := by
  simp [spl, List.drop_append]
theorem own8_none (w : World) (B : Nat) : Own8 w B 5 (.slice none 0 0) [] := ⟨rfl, .inl ⟨rfl, rfl⟩⟩
theorem Row.bytes {w : World} {g : Nat} {t : TypeId} {l : List Int} (h : Row w g t (v8 l)) : Bytes w (some ⟨g, 0, none⟩) l := fun _ => ⟨g, 0, rfl, fun j hj => by rw [Nat.zero_add]; exact h.cell8 hj⟩
theorem gi_by {r : List Int} (hb : By r) (k : Nat) (hk : k < r.length) : 0 ≤ gi r k ∧ gi r k < 256 := hb _ (by simp [gi, hk])
theorem or_byte (n x : Int) (h0 : 0 ≤ n) (h1 : n < 1099511627776) (h2 : 0 ≤ x) (h3 : x < 256) : bits .or .i64 (n * 256) x = n * 256 + x := by
  obtain ⟨a, rfl⟩ := Int.eq_ofNat_of_zero_le h0
  obtain ⟨b, rfl⟩ := Int.eq_ofNat_of_zero_le h2
  show IntKind.i64.wrap ((BitVec.ofInt 64 ((a : Int) * 256) ||| BitVec.ofInt 64 (b : Int)).toNat : Int) = _
  have e1 : (BitVec.ofInt 64 ((a : Int) * 256)).toNat = a * 256 := by
    rw [show ((a : Int) * 256) = ((a * 256 : Nat) : Int) by simp, BitVec.ofInt_natCast, BitVec.toNat_ofNat]; exact Nat.mod_eq_of_lt (by omega)
  have e2 : (BitVec.ofInt 64 (b : Int)).toNat = b := by
    rw [BitVec.ofInt_natCast, BitVec.toNat_ofNat]; exact Nat.mod_eq_of_lt (by omega)
  rw [BitVec.toNat_or, e1, e2]
  have := Nat.two_pow_add_eq_or_of_lt (i := 8) (b := b) (by omega) a
  rw [Nat.mul_comm a 256, show (256 : Nat) = 2 ^ 8 from rfl, ← this, IntKind.wrap_i64]
  omega
/-- A fact that omega and simp leave alone. -/
structure Hid (p : Prop) : Prop where out : p
end Go.Proofs.Ytgcffdnbihfghaa
