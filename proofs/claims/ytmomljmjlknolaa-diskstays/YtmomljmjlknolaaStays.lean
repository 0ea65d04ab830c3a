/- DiskStays returns true and turns no old memory, for any bytes, rows of bytes and numbers. No condition. -/
import Derived.Test.YtmomljmjlknolaaArg
namespace Go.Proofs.Ytmomljmjlknolaa
open Go Go.RowKit
/-- A disk on which the bytes a are synced, first of all. -/
structure Qs (a : List Int) (i : Int) (d : D) : Prop where
  room : d.room = 100000
  dead : d.dead = false
  left : d.left = 0
  len : (d.bytes.length : Int) ≤ 300 * (i + 1)
  syn : a.length ≤ d.syn
  front : d.bytes.take a.length = a
  ops : d.ops ≤ i + 2
theorem qs_app {a : List Int} {i : Int} {d : D} (h : Qs a i d) (hk : Ok d) (hi : i ≤ 20) (bs : List Int) (hb : bs.length ≤ 300) : aErr d bs = 0 ∧ Qs a (i + 1) (dApp d bs) := by
  have h2 := h.len
  have h3 := h.room
  have h4 := hk.syn
  have h5 := h.syn
  have hl : ¬ ((bs.length : Int) > d.room - d.bytes.length) := by omega
  have hd := h.dead
  have hw : dApp d bs = { d with bytes := d.bytes ++ bs, ops := d.ops + 1 } := by
    simp [dApp, hd, hl, dWork, h.left]
  refine ⟨by simp [aErr, hd, hl, wErr, h.left], ?_⟩
  rw [hw]
  refine ⟨h3, h.dead, h.left, ?_, h.syn, ?_, ?_⟩
  · show ((d.bytes ++ bs).length : Int) ≤ _
    simp only [List.length_append]; omega
  · show (d.bytes ++ bs).take a.length = a
    rw [List.take_append_of_le_length (by omega)]; exact h.front
  · have := h.ops
    show d.ops + 1 ≤ _
    omega
theorem qs_crash {a : List Int} {i : Int} {d : D} (h : Qs a i d) (p : Int) : Qs a i (dCrash d p) := by
  have h2 := h.len
  have h5 := h.syn
  refine ⟨h.room, rfl, rfl, ?_, ?_, ?_, h.ops⟩
  · show ((d.bytes.take (d.syn + stay d p)).length : Int) ≤ _
    simp only [List.length_take]; omega
  · show a.length ≤ d.syn + stay d p
    omega
  · show (d.bytes.take (d.syn + stay d p)).take a.length = a
    rw [List.take_take, Nat.min_eq_left (by omega)]; exact h.front
theorem qs_first (a : List Int) (ha : a.length ≤ 300) : aErr (dNew 100000) a = 0 ∧ sErr (dApp (dNew 100000) a) = 0 ∧ Qs a 0 (dSync (dApp (dNew 100000) a)) := by
  have hl : ¬ ((a.length : Int) > 100000) := by omega
  have hl2 : ((a.length : Int) ≤ 100000) := by omega
  have hw : dApp (dNew 100000) a = ⟨100000, a, 0, 0, false, 1⟩ := by simp [dApp, dNew, dWork]; omega
  have hs : dSync ⟨100000, a, 0, 0, false, 1⟩ = ⟨100000, a, a.length, 0, false, 2⟩ := by simp [dSync, dWork]
  refine ⟨by simp [aErr, dNew, wErr, hl2], by rw [hw]; simp [sErr, wErr], ?_⟩
  rw [hw, hs]
  exact ⟨rfl, rfl, rfl, by show (a.length : Int) ≤ _; omega, Nat.le_refl _, List.take_length, by show (2 : Int) ≤ _; decide⟩
theorem qs_le {a : List Int} {i : Int} {d : D} (h : Qs a i d) (hk : Ok d) : a.length ≤ d.bytes.length := Nat.le_trans h.syn hk.syn
theorem keep_cell {w w' : World} {p : Addr} {v : Value} (hb : Below w.heap.size w w') (h : w.cell? p = some v) : w'.cell? p = some v := by
  rw [hb.cell (block_lt_of_cell h)]; exact h
theorem stays_early (bs : List Int) (p q r : Option Addr) (cap n1 c1 n2 c2 : Nat) (w : World) (hl : 300 < bs.length) (_hm : bs.length ≤ 9223372036854775807) :
    Calls Try.prog 4 #[.slice p bs.length cap, .slice q n1 c1, .slice r n2 c2] w fun e w' => e = .returned (.bool true) ∧ Below w.heap.size w w' := by
  have hd : decide ((bs.length : Int) > 300) = true := by simp; omega
  go_enter Try.func4, Try.ntmps4
  go_wp2_with (first | (go_at_call 7; (with_reducible refine Calls.mono (known_any _) ?_); rintro e w1 ⟨rfl, hb1⟩))
  go_ret
  exact ⟨rfl, hb1⟩

set_option maxRecDepth 20000 in
set_option maxHeartbeats 1000000 in
theorem stays_walk (bs : List Int) (zss : List (List Int)) (ns : List Int) (a q r : Option Addr) (cap c1 c2 : Nat) (w : World) (hB : Bytes w a bs) (hnil : a = none → cap = 0 ∧ bs.length = 0) (hl : bs.length ≤ 300) (hR : Rows2 w q zss) (hN : Ints w r ns) (hz : zss.length ≤ 9223372036854775807) (hn : ns.length ≤ 9223372036854775807) :
    Calls Try.prog 4 #[.slice a bs.length cap, .slice q zss.length c1, .slice r ns.length c2] w fun e w' => e = .returned (.bool true) ∧ Below w.heap.size w w' := by
  have hd : decide ((bs.length : Int) > 300) = false := by simp; omega
  obtain ⟨i1, i2, i3⟩ := qs_first bs hl
  have e0 := fun w1 hb => st_new 100000 w w1 hb (by decide)
  have e1 := fun g w1 (s1 : St w w1 g g (dNew 100000)) => st_append s1 bs a bs.length cap rfl (hB.belowB s1.below (Nat.le_refl _)) hnil (by omega) (by decide) _ _ i1 rfl
  have hops : (dApp (dNew 100000) bs).ops < 1000000 := by
    have := (app_ops (dNew 100000) bs).2
    have h0 : (dNew 100000).ops = 0 := rfl
    omega
  have e2 := fun g h w2 (s2 : St w w2 g h (dApp (dNew 100000) bs)) => st_sync s2 hops _ _ i2 rfl
  clear i1 i2 hops
  generalize dSync (dApp (dNew 100000) bs) = d0 at *
  generalize dApp (dNew 100000) bs = d00 at *
  have hstr : ∀ w', Bytes w' a bs → (convert 31 9 (.slice a bs.length cap)).run Try.prog w' = .ok (.string (strOfNums bs)) w' := fun w' h => run_str w' a bs.length cap bs rfl h
  have eR : ((strOfNums bs).toList != (strOfNums bs).toList) = false := by simp
  go_enter Try.func4, Try.ntmps4
  go_wp2_with (first | (go_at_call 7; (with_reducible refine Calls.mono (known_any _) ?_); rintro e w1 ⟨rfl, hb1⟩) | (go_at_call 8; (with_reducible refine Calls.mono (e0 _ hb1) ?_); rintro e w2 ⟨g, rfl, s1⟩) | (go_at_call 11; (with_reducible refine Calls.mono (e1 _ _ s1) ?_); rintro e w3 ⟨rfl, h3, s3, f3⟩) | (go_at_call 13; (with_reducible refine Calls.mono (e2 _ _ _ s3) ?_); rintro e w4 ⟨rfl, s4, f4⟩))
  clear e0 e1 e2 hb1 s1 s3 f3 f4
  go_loopw [9] (fun i wr => ∃ (j : Nat) (h : Nat) (d : D), i = .int .i64 j ∧ j ≤ 20 ∧ St w wr g h d ∧ Qs bs j d) (fun i _ => 20 - (intOf i).toNat)
  case atStart => exact ⟨0, h3, d0, rfl, by omega, s4, i3⟩
  case round =>
    obtain ⟨j, h, d, rfl, hj, s, hQ⟩ := hrel
    clear s4 i3
    by_cases hlt : j < zss.length
    · by_cases h20 : j < 20
      · obtain ⟨b, off, rfl, hc⟩ := hR.below s.below (Nat.le_refl _) (by omega)
        obtain ⟨zq, zc, hcell, hzb, hzn, hzm, _⟩ := hc j hlt
        clear hc
        generalize zss.getD j [] = z at *
        by_cases hzl : z.length ≤ 300
        · have hzd : decide ((z.length : Int) > 300) = false := by simp; omega
          obtain ⟨a1, a2⟩ := qs_app hQ s.ok (by omega) z hzl
          have hap := st_append s z zq z.length zc rfl hzb hzn (by omega) (by have := hQ.ops; omega) _ _ a1 rfl
          generalize dApp d z = d1 at *
          clear a1 hQ
          by_cases hjn : j < ns.length
          · obtain ⟨b2, off2, rfl, hc2⟩ := hN (by omega)
            have hpw := hc2 j hjn
            clear hc2
            generalize gi ns j = pk at *
            by_cases hp1 : pk.tmod 2 = 1
            · have hp2 : (pk.tmod 2 == 1) = true := by simp [hp1]
              go_wp2_with (first | (go_at_call 11; (with_reducible refine Calls.mono hap ?_); rintro e w5 ⟨rfl, h5, s5, f5⟩; have hpk := keep_cell s5.below hpw) | (go_at_call 17; (with_reducible refine Calls.mono (st_crash s5 _ _ _ rfl rfl) ?_); rintro e w6 ⟨rfl, s6, f6⟩; obtain ⟨d2, s7, hQ7⟩ : ∃ d2, St w w6 g h5 d2 ∧ Qs bs ((j : Int) + 1) d2 := ⟨_, s6, qs_crash a2 _⟩; clear s6) | (go_at_call 19; (with_reducible refine Calls.mono (st_bytes s7 _ _ rfl rfl) ?_); rintro e w8 ⟨b8, rfl, r8, hb8, s8, f8⟩))
              have hle := qs_le hQ7 s8.ok
              have hfr := hQ7.front
              have hB8 := hB.belowB s8.below (Nat.le_refl _)
              have q2 := fun n => hstr (w8.drewN n) hB8
              have q1 := fun n => run_str (w8.drewN n) (some ⟨b8, 0, none⟩) bs.length d2.bytes.length bs rfl (by have := r8.bytes.take bs.length; rw [hfr] at this; exact this)
              have hld : decide ((d2.bytes.length : Int) < bs.length) = false := by simp; omega
              clear hfr
              generalize d2.bytes.length = N at *
              go_quiet (fail)
              go_wp2
              go_roundw
              case rel => exact ⟨j + 1, h5, _, by go_num, by omega, s8.drewN _, hQ7⟩
              case measure => simp [intOf]; omega
            · have hp2 : (pk.tmod 2 == 1) = false := by simp [hp1]
              go_wp2_with (first | (go_at_call 11; (with_reducible refine Calls.mono hap ?_); rintro e w5 ⟨rfl, h5, s5, f5⟩; have s7 := s5; have hQ7 := a2; have hpk := keep_cell s5.below hpw) | (go_at_call 19; (with_reducible refine Calls.mono (st_bytes s7 _ _ rfl rfl) ?_); rintro e w8 ⟨b8, rfl, r8, hb8, s8, f8⟩))
              have hle := qs_le hQ7 s8.ok
              have hfr := hQ7.front
              have hB8 := hB.belowB s8.below (Nat.le_refl _)
              have q2 := fun n => hstr (w8.drewN n) hB8
              have q1 := fun n => run_str (w8.drewN n) (some ⟨b8, 0, none⟩) bs.length d1.bytes.length bs rfl (by have := r8.bytes.take bs.length; rw [hfr] at this; exact this)
              have hld : decide ((d1.bytes.length : Int) < bs.length) = false := by simp; omega
              clear hfr
              generalize d1.bytes.length = N at *
              go_quiet (fail)
              go_wp2
              go_roundw
              case rel => exact ⟨j + 1, h5, _, by go_num, by omega, s8.drewN _, hQ7⟩
              case measure => simp [intOf]; omega
          · have hjn' : decide ((j : Int) < ns.length) = false := by simp; omega
            go_wp2_with (first | (go_at_call 11; (with_reducible refine Calls.mono hap ?_); rintro e w5 ⟨rfl, h5, s5, f5⟩; have s7 := s5; have hQ7 := a2) | (go_at_call 19; (with_reducible refine Calls.mono (st_bytes s7 _ _ rfl rfl) ?_); rintro e w8 ⟨b8, rfl, r8, hb8, s8, f8⟩))
            have hle := qs_le hQ7 s8.ok
            have hfr := hQ7.front
            have hB8 := hB.belowB s8.below (Nat.le_refl _)
            have q2 := fun n => hstr (w8.drewN n) hB8
            have q1 := fun n => run_str (w8.drewN n) (some ⟨b8, 0, none⟩) bs.length d1.bytes.length bs rfl (by have := r8.bytes.take bs.length; rw [hfr] at this; exact this)
            have hld : decide ((d1.bytes.length : Int) < bs.length) = false := by simp; omega
            clear hfr
            generalize d1.bytes.length = N at *
            go_quiet (fail)
            go_wp2
            go_roundw
            case rel => exact ⟨j + 1, h5, _, by go_num, by omega, s8.drewN _, hQ7⟩
            case measure => simp [intOf]; omega
        · have hzd : decide ((z.length : Int) > 300) = true := by simp; omega
          go_wp2
          go_roundw
          case rel => exact ⟨j + 1, h, d, by go_num, by omega, s, ⟨hQ.room, hQ.dead, hQ.left, by have := hQ.len; omega, hQ.syn, hQ.front, by have := hQ.ops; omega⟩⟩
          case measure => simp [intOf]; omega
      · have hlt' : decide ((j : Int) < zss.length) = true := by simp; omega
        have h20' : decide ((j : Int) < 20) = false := by simp; omega
        go_wp2
        go_ret
        exact ⟨rfl, s.below⟩
    · have hlt' : decide ((j : Int) < zss.length) = false := by simp; omega
      go_wp2
      go_ret
      exact ⟨rfl, s.below⟩
theorem stays_any (bs : List Int) (zss : List (List Int)) (ns : List Int) (a q r : Option Addr) (cap c1 c2 : Nat) (w : World) (hB : Bytes w a bs) (hnil : a = none → cap = 0 ∧ bs.length = 0) (hR : Rows2 w q zss) (hN : Ints w r ns) (hm : bs.length ≤ 9223372036854775807) (hz : zss.length ≤ 9223372036854775807) (hn : ns.length ≤ 9223372036854775807) :
    Calls Try.prog 4 #[.slice a bs.length cap, .slice q zss.length c1, .slice r ns.length c2] w fun e w' => e = .returned (.bool true) ∧ Below w.heap.size w w' := by
  by_cases h : bs.length ≤ 300
  · exact stays_walk bs zss ns a q r cap c1 c2 w hB hnil h hR hN hz hn
  · exact stays_early bs a q r cap _ _ _ _ w (by omega) hm
end Go.Proofs.Ytmomljmjlknolaa
