/- head: the live question of frame's laws: always yes. -/
import Derived.Test.YtcmcmbgdakcmmaaFr3
import Derived.Test.YtcmcmbgdakcmmaaFr5
namespace Go.Proofs.Ytcmcmbgdakcmmaa
set_option linter.unusedVariables false
set_option linter.unusedSimpArgs false
open Go.RowKit

theorem fh1 : putF [7] = [170, 1, 7] := by decide +kernel
theorem fh2 : partF [170, 1, 7, 170] = [7] := by decide +kernel
theorem fh3 : lenF [170, 1, 7, 170] = 3 := by decide +kernel
theorem fh4 : errF [170, 1, 7, 170] = 0 := by decide +kernel
theorem fh5 : partF [170, 2, 7] = [] := by decide +kernel
theorem fh6 : lenF [170, 2, 7] = 0 := by decide +kernel
theorem fh7 : errF [170, 2, 7] = 0 := by decide +kernel
theorem fh8 : partF [170, 0] = [] := by decide +kernel
theorem fh9 : lenF [170, 0] = 0 := by decide +kernel
theorem fh10 : errF [170, 0] = 61 := by decide +kernel
theorem fh11 : cutF [170, 1, 7, 170, 1, 8, 9] = [[7], [8]] := by decide +kernel
theorem fh12 : doneF [170, 1, 7, 170, 1, 8, 9] = 6 := by decide +kernel
theorem fh13 : errF (restF [170, 1, 7, 170, 1, 8, 9]) = 61 := by decide +kernel
theorem lit_rb {w : World} {t : TypeId} (cs : Array Value) (l : List UInt8) (h : cs = bcells l) : Rb (w.alloc (.cells cs t)) (w.alloc (.cells cs t)).heap.size (some ⟨w.heap.size, 0, none⟩) l := by
  subst h
  rw [World.size_alloc]
  exact Rb.new w t l

set_option maxRecDepth 100000 in
set_option maxHeartbeats 4000000 in
theorem fhead_ok (w : World) : Calls Try.prog 9 #[] w fun e w' => e = .returned (.bool true) ∧ Below w.heap.size w w' := by
  have P1 := Lib.hid (fun (u : World) (h : Rb (u.alloc (.cells #[.int .u8 7] 5)) (u.alloc (.cells #[.int .u8 7] 5)).heap.size (some ⟨u.heap.size, 0, none⟩) [7]) => put_ok (some ⟨u.heap.size, 0, none⟩) 1 1 [7] (u.alloc (.cells #[.int .u8 7] 5)) rfl (fun h => by cases h) h)
  have F1 := Lib.hid (fun A u h => first_ok A 4 4 [170, 1, 7, 170] u rfl (by omega) (by omega) h)
  have F2 := Lib.hid (fun A u h => first_ok A 3 3 [170, 2, 7] u rfl (by omega) (by omega) h)
  have F3 := Lib.hid (fun A u h => first_ok A 2 2 [170, 0] u rfl (by omega) (by omega) h)
  have C1 := Lib.hid (fun A u h => cut_ok A 7 7 [170, 1, 7, 170, 1, 8, 9] u rfl (by omega) (by omega) (by omega) h)
  rw [fh1] at P1
  rw [fh2, fh3, fh4] at F1
  rw [fh5, fh6, fh7] at F2
  rw [fh8, fh9, fh10] at F3
  rw [fh11, fh12, fh13] at C1
  simp only [List.length_cons, List.length_nil, Nat.reduceAdd, Int.cast_ofNat_Int] at P1 F1 F2 F3 C1
  go_enter Try.func9, Try.ntmps9
  go_wp2_with fail
  refine (P1.out _ (lit_rb _ _ rfl)).mono ?_
  rintro e w1 ⟨A1, c1, rfl, ho1, hn1, hb1⟩
  obtain ⟨g1, rfl, _, hg1⟩ := ho1.form (by decide)
  have R1 := Lib.hid ho1.rb
  have B1 := Lib.hid (((Below.refl w.heap.size w).alloc (Nat.le_refl _) (.cells #[.int .u8 7] 5)).trans (hb1.mono (by rw [World.size_alloc]; omega)))
  clear ho1 hn1 hb1
  go_wp2_with fail
  obtain ⟨u1, hu1⟩ : ∃ u1, w1.alloc (.cells #[.int .u8 170, .int .u8 1, .int .u8 7, .int .u8 170] 5) = u1 := ⟨_, rfl⟩
  have L1 : Rb u1 u1.heap.size (some ⟨w1.heap.size, 0, none⟩) [170, 1, 7, 170] := by rw [← hu1]; exact lit_rb _ _ rfl
  have M1 : Below w1.heap.size w1 u1 := by rw [← hu1]; exact (Below.refl _ _).alloc (Nat.le_refl _) _
  rw [hu1]
  refine (F1.out _ _ L1).mono ?_
  rintro e w2 ⟨A2, c2, rfl, ho2, hn2, hb2⟩
  obtain ⟨g2, rfl, _, hg2⟩ := ho2.form (by decide)
  have T2 := M1.trans (hb2.mono M1.size)
  have R2 := Lib.hid (And.intro (R1.out.below T2 (Nat.le_refl _)) ho2.rb)
  have B2 := Lib.hid (And.intro (B1.out.trans (T2.mono B1.out.size)) T2.size)
  clear ho2 hn2 hb2 hu1 L1 M1 T2
  go_wp2_with fail
  obtain ⟨u2, hu2⟩ : ∃ u2, w2.alloc (.cells #[.int .u8 170, .int .u8 2, .int .u8 7] 5) = u2 := ⟨_, rfl⟩
  have L2 : Rb u2 u2.heap.size (some ⟨w2.heap.size, 0, none⟩) [170, 2, 7] := by rw [← hu2]; exact lit_rb _ _ rfl
  have M2 : Below w2.heap.size w2 u2 := by rw [← hu2]; exact (Below.refl _ _).alloc (Nat.le_refl _) _
  rw [hu2]
  refine (F2.out _ _ L2).mono ?_
  rintro e w3 ⟨A3, c3, rfl, ho3, hn3, hb3⟩
  have T3 := M2.trans (hb3.mono M2.size)
  have R3 := Lib.hid (And.intro (R2.out.1.below T3 B2.out.2) (R2.out.2.below T3 (Nat.le_refl _)))
  have B3 := Lib.hid (And.intro (B2.out.1.trans (T3.mono B2.out.1.size)) (And.intro (Nat.le_trans B2.out.2 T3.size) T3.size))
  clear ho3 hn3 hb3 hu2 L2 M2 T3
  go_wp2_with fail
  obtain ⟨u3, hu3⟩ : ∃ u3, w3.alloc (.cells #[.int .u8 170, .int .u8 0] 5) = u3 := ⟨_, rfl⟩
  have L3 : Rb u3 u3.heap.size (some ⟨w3.heap.size, 0, none⟩) [170, 0] := by rw [← hu3]; exact lit_rb _ _ rfl
  have M3 : Below w3.heap.size w3 u3 := by rw [← hu3]; exact (Below.refl _ _).alloc (Nat.le_refl _) _
  rw [hu3]
  refine (F3.out _ _ L3).mono ?_
  rintro e w4 ⟨A4, c4, rfl, ho4, hn4, hb4⟩
  have T4 := M3.trans (hb4.mono M3.size)
  have R4 := Lib.hid (And.intro (R3.out.1.below T4 B3.out.2.1) (R3.out.2.below T4 B3.out.2.2))
  have B4 := Lib.hid (And.intro (B3.out.1.trans (T4.mono B3.out.1.size)) (And.intro (Nat.le_trans B3.out.2.1 T4.size) (Nat.le_trans B3.out.2.2 T4.size)))
  clear ho4 hn4 hb4 hu3 L3 M3 T4
  go_wp2_with fail
  obtain ⟨u4, hu4⟩ : ∃ u4, w4.alloc (.cells #[.int .u8 170, .int .u8 1, .int .u8 7, .int .u8 170, .int .u8 1, .int .u8 8, .int .u8 9] 5) = u4 := ⟨_, rfl⟩
  have L4 : Rb u4 u4.heap.size (some ⟨w4.heap.size, 0, none⟩) [170, 1, 7, 170, 1, 8, 9] := by rw [← hu4]; exact lit_rb _ _ rfl
  have M4 : Below w4.heap.size w4 u4 := by rw [← hu4]; exact (Below.refl _ _).alloc (Nat.le_refl _) _
  rw [hu4]
  refine (C1.out _ _ L4).mono ?_
  rintro e w5 ⟨A5, c5, rfl, ho5, hb5⟩
  have T5 := M4.trans (hb5.mono M4.size)
  have R5 := And.intro (R4.out.1.below T5 B4.out.2.1) (R4.out.2.below T5 B4.out.2.2)
  have B5 := Lib.hid (B4.out.1.trans (T5.mono B4.out.1.size))
  obtain ⟨b, o, e0, _, d0⟩ := R5.1.byte 0 (by decide)
  obtain ⟨b', o', e1, _, d1⟩ := R5.1.byte 1 (by decide)
  obtain ⟨b'', o'', e2, _, d2⟩ := R5.1.byte 2 (by decide)
  obtain ⟨b3, o3, e3, _, d3⟩ := R5.2.byte 0 (by decide)
  injection e0 with e0; injection e0 with e0 e00; subst e0; subst e00
  injection e1 with e1; injection e1 with e1 e11; subst e1; subst e11
  injection e2 with e2; injection e2 with e2 e22; subst e2; subst e22
  injection e3 with e3; injection e3 with e3 e33; subst e3; subst e33
  simp only [List.getElem_cons_zero, List.getElem_cons_succ, Nat.zero_add] at d0 d1 d2 d3
  have D0 : w5.cell? ⟨g1, 0, none⟩ = some (.int .u8 170) := d0
  have D1 : w5.cell? ⟨g1, 1, none⟩ = some (.int .u8 1) := d1
  have D2 : w5.cell? ⟨g1, 2, none⟩ = some (.int .u8 7) := d2
  have D3 : w5.cell? ⟨g2, 0, none⟩ = some (.int .u8 7) := d3
  clear ho5 hb5 hu4 L4 M4 T5 R5 d0 d1 d2 d3
  go_wp2_with fail
  go_ret
  exact ⟨rfl, B5.out⟩
end Go.Proofs.Ytcmcmbgdakcmmaa
