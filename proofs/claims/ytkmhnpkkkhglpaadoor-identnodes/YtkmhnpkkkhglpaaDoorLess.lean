/- ident.Less says whether the one id is the lesser number, and turns no old memory. -/
import Derived.Test.YtkmhnpkkkhglpaaDoorNum
import Derived.Test.YtkmhnpkkkhglpaaDoorArrEq
import Derived.Test.YtkmhnpkkkhglpaaDoorMild
import Derived.Test.YtkmhnpkkkhglpaaDoorChecked
import Derived.Outline
namespace Go.Proofs.YtkmhnpkkkhglpaaDoor
open Go.RowKit

theorem run_compare {P : Program} (w : World) (x y : List Int) (a b : Nat) (n m c d : Nat) (hx : x.length = n) (hy : y.length = m)
    (ha : ∀ j, j < n → w.cell? ⟨a, j, none⟩ = some (.int .u8 (gi x j))) (hb : ∀ j, j < m → w.cell? ⟨b, j, none⟩ = some (.int .u8 (gi y j))) :
    (Extern.BytealgCompare.compare #[.slice (some ⟨a, 0, none⟩) n c, .slice (some ⟨b, 0, none⟩) m d]).run P w = .ok (.int .i64 (Lib.compareBytes (Lib.bytesOf x) (Lib.bytesOf y))) w := by
  have hl := Lib.run_loadBytesX (P := P) w x ⟨a, 0, none⟩ .empty (fun j v hj => by
    rw [Addr.add_mid, Nat.zero_add]
    have hlt : j < x.length := (List.getElem?_eq_some_iff.1 hj).1
    rw [ha j (by omega)]; simp [gi, hj])
  have hr := Lib.run_loadBytesX (P := P) w y ⟨b, 0, none⟩ .empty (fun j v hj => by
    rw [Addr.add_mid, Nat.zero_add]
    have hlt : j < y.length := (List.getElem?_eq_some_iff.1 hj).1
    rw [hb j (by omega)]; simp [gi, hj])
  have he : ∀ xs : List Int, (⟨ByteArray.empty.data ++ (Lib.bytesOf xs).toArray⟩ : ByteArray) = ⟨(Lib.bytesOf xs).toArray⟩ := fun xs => by
    congr 1
    show (#[] : Array UInt8) ++ (Lib.bytesOf xs).toArray = (Lib.bytesOf xs).toArray
    simp
  rw [he, hx] at hl
  rw [he, hy] at hr
  show Sem.run P (do pure (goInt (Extern.BytealgCompare.cmp (← Extern.Bytes.bytesOf (.slice (some ⟨a, 0, none⟩) n c)) (← Extern.Bytes.bytesOf (.slice (some ⟨b, 0, none⟩) m d))))) w = _
  simp only [Extern.Bytes.bytesOf, Sem.run_bind, Sem.run_pure, hl, hr, Result.andThen]
  rw [Lib.cmp_eq]
  rfl

set_option maxRecDepth 20000 in
set_option maxHeartbeats 1000000 in
theorem compare_any (x y : List Int) (a b : Nat) (w : World) (hx : x.length = 32) (hy : y.length = 32)
    (ha : ∀ j, j < 32 → w.cell? ⟨a, j, none⟩ = some (.int .u8 (gi x j))) (hb : ∀ j, j < 32 → w.cell? ⟨b, j, none⟩ = some (.int .u8 (gi y j))) :
    Calls Tryd.prog 17 #[.slice (some ⟨a, 0, none⟩) 32 32, .slice (some ⟨b, 0, none⟩) 32 32] w fun e w' => e = .returned (.int .i64 (Lib.compareBytes (Lib.bytesOf x) (Lib.bytesOf y))) ∧ w' = w := by
  go_enter Tryd.func17, Tryd.ntmps17
  go_wp2
  rw [run_callFunc_extern Tryd.func19 (by kernel_rfl) (by kernel_rfl) (by kernel_rfl) (e := Extern.BytealgCompare.compare) (by kernel_rfl), run_compare w x y a b 32 32 32 32 hx hy ha hb]
  simp only [Result.andThen]
  rw [Oper.upon_value]
  go_wp2
  go_ret
  exact ⟨rfl, rfl⟩

set_option maxRecDepth 20000 in
set_option maxHeartbeats 1000000 in
theorem less_any (x y : List Int) (w : World) (hx : Id32 x) (hy : Id32 y) :
    Calls Tryd.prog 11 #[.agg (v8 x), .agg (v8 y)] w fun e w' => e = .returned (.bool (decide (num x < num y))) ∧ Below w.heap.size w w' := by
  have hr1 : Row ((w.alloc (.cells (v8 x) 24)).alloc (.cells (v8 y) 24)) w.heap.size 24 (v8 x) := (Row.new w 24 (v8 x)).alloc _
  have hr2 : Row ((w.alloc (.cells (v8 x) 24)).alloc (.cells (v8 y) 24)) (w.heap.size + 1) 24 (v8 y) := Row.newAt _ _ _ _ (by simp)
  have hlt := cmp_lt x y hx.2 hy.2 (hx.1.trans hy.1.symm)
  have hd : decide (Lib.compareBytes (Lib.bytesOf x) (Lib.bytesOf y) < 0) = decide (num x < num y) := by
    by_cases h : num x < num y
    · have := hlt.2 h; simp [h, this]
    · have : ¬ Lib.compareBytes (Lib.bytesOf x) (Lib.bytesOf y) < 0 := fun h' => h (hlt.1 h')
      simp only [h, this]
  go_enter Tryd.func11, Tryd.ntmps11
  go_wp2
  have hb0 : Below w.heap.size w ((w.alloc (.cells (v8 x) 24)).alloc (.cells (v8 y) 24)) := ((Below.refl _ _).alloc (Nat.le_refl _) _).alloc (by simp) _
  generalize (w.alloc (.cells (v8 x) 24)).alloc (.cells (v8 y) 24) = w0 at hr1 hr2 hb0 ⊢
  refine region_tail 2 (by kernel_rfl) (by kernel_rfl) (by kernel_rfl) ?_
  apply Exists.intro
  refine ⟨fun ι _ W hb hc => ?_, fun w1 hb1 => ?_⟩
  · simp only [List.take_succ_cons, List.take_zero]
    repeat (go_big_quiet_step (fail))
    exact wpQuiet_nil rfl
  · have hr3 := hr1.below hb1 hr1.lt
    have hr4 := hr2.below hb1 hr2.lt
    have hc := compare_any x y w.heap.size (w.heap.size + 1) w1 hx.1 hy.1 (fun j hj => hr3.cell8 (by rw [hx.1]; exact hj)) (fun j hj => hr4.cell8 (by rw [hy.1]; exact hj))
    simp only [List.drop_succ_cons, List.drop_zero]
    go_wp2_with (go_at_call 17; refine Calls.mono hc ?_; rintro e w2 ⟨rfl, rfl⟩)
    go_ret
    exact ⟨rfl, hb0.trans (hb1.mono hb0.size)⟩
end Go.Proofs.YtkmhnpkkkhglpaaDoor
