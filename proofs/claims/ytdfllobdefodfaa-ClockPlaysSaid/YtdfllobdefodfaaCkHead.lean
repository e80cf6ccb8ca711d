/- The head of clock's laws: its live question is always answered yes. -/
import Derived.Test.YtdfllobdefodfaaCkLib
namespace Go.Proofs.Ytdfllobdefodfaa
set_option linter.unusedVariables false
set_option linter.unusedSimpArgs false
open Go.RowKit

set_option maxRecDepth 100000 in
set_option maxHeartbeats 8000000 in
theorem chead_ok (u : World) : Calls Try.prog 9 #[] u fun e u' => e = .returned (.bool true) ∧ Ke [] u u' := by
  have HNEW := Lib.hid (w_new (W := u) (Below.refl _ u))
  have wf1 : Wf 1 := by decide
  have wf4 : Wf 4 := by decide
  have wf5 : Wf 5 := by decide
  have wf6 : Wf 6 := by decide
  have wf7 : Wf 7 := by decide
  have WF := Lib.hid (And.intro wf1 (And.intro wf4 (And.intro wf5 (And.intro wf6 wf7))))
  clear wf1 wf4 wf5 wf6 wf7
  go_enter Try.func9, Try.ntmps9
  go_upto_region 4 with (go_at_call 10; refine HNEW.out.mono ?_; rintro e u1 ⟨G0, c, rfl, h1, _, _⟩)
  have R1 := Lib.hid h1
  clear h1
  go_upto_region 5 with (go_at_call 17; refine (w_set R1.out 7 WF.out.2.2.2.2 3 0 [(7, 3)] (by decide) (by decide)).mono ?_; rintro e u2 ⟨G1, rfl, h1, _⟩)
  have R2 := Lib.hid h1
  clear h1
  go_upto_region 6 with (go_at_call 17; refine (w_set R2.out 5 WF.out.2.2.1 3 0 [(5, 3), (7, 3)] (by decide) (by decide)).mono ?_; rintro e u3 ⟨G2, rfl, h1, _⟩)
  have R3 := Lib.hid h1
  clear h1
  go_upto_region 7 with (go_at_call 17; refine (w_set R3.out 6 WF.out.2.2.2.1 9 0 [(5, 3), (7, 3), (6, 9)] (by decide) (by decide)).mono ?_; rintro e u4 ⟨G3, rfl, h1, _⟩)
  have R4 := Lib.hid h1
  clear h1
  go_upto_region 8 with (go_at_call 17; refine (w_set R4.out 6 WF.out.2.2.2.1 2 0 [(6, 2), (5, 3), (7, 3)] (by decide) (by decide)).mono ?_; rintro e u5 ⟨G4, rfl, h1, _⟩)
  have R5 := Lib.hid h1
  clear h1
  go_upto_region 9 with (go_at_call 12; refine (w_drop R5.out 4 WF.out.2.1 false (by decide)).mono ?_; rintro e u6 ⟨rfl, h1, _⟩)
  have R6 := Lib.hid (show Cw u u6 G4 c 0 [(6, 2), (5, 3), (7, 3)] from h1)
  clear h1
  go_upto_region 10 with (go_at_call 14; refine (w_tick R6.out 4 WF.out.2.1 (by decide) (by decide) 4 [6, 5, 7] [] 3 (by decide) (by decide) (by decide) rfl).mono ?_; rintro e u7 ⟨A, cp, rfl, h1, h2, h3, h4, h5, _⟩)
  have R7 := Lib.hid (And.intro h5 h1)
  clear h1 h5 h4
  go_upto_region 11 with (go_at_call 19; refine (w_at R7.out.1 6 WF.out.2.2.2.1 0 false (by decide) (by decide)).mono ?_; rintro e u8 ⟨rfl, rfl⟩)
  go_upto_region 12 with (go_at_call 17; refine (w_set R7.out.1 1 WF.out.1 4 1 [] (by decide) (by decide)).mono ?_; rintro e u9 ⟨G5, rfl, h1, hs⟩; have R8 := Lib.hid (And.intro h1 (R7.out.2.step hs)); clear h1 hs)
  have e3 : (#[.int .i64 6, .int .i64 5, .int .i64 7] : Array Value) = (i64s [6, 5, 7]).toArray := rfl
  have HS := Lib.hid (show ∀ w, Ke [] u9 w → Calls Try.prog 16 #[.slice A 3 cp, .slice (some ⟨w.heap.size, 0, none⟩) 3 3] (w.alloc (.cells #[.int .i64 6, .int .i64 5, .int .i64 7] 3)) fun e w' => e = .returned (.bool true) ∧ Ke [] u9 w' from
    fun w kw => (same_ok A _ cp 3 [6, 5, 7] [6, 5, 7] G5 [] _ 3 3 rfl rfl (R8.out.2.step (Sp.of (kw.alloc _).nil)) (Ri.lit [6, 5, 7] _ rfl (by simp)) (by omega) (by omega)).mono fun e w' ⟨k1, k2⟩ => ⟨by rw [k1]; rfl, (kw.alloc _).trans k2⟩)
  clear e3
  go_wp2_with (first
    | (go_at_call 16; refine (HS.out _ (Ke.refl _ _)).mono ?_; rintro e v1 ⟨rfl, k1⟩; have K1 := Lib.hid k1; clear k1)
    | (go_at_call 21; refine (w_now (R8.out.1.ke K1.out)).mono ?_; rintro e v2 ⟨rfl, rfl⟩)
    | (go_at_call 22; refine (w_many (R8.out.1.ke K1.out) 0 rfl).mono ?_; rintro e v3 ⟨rfl, rfl⟩))
  go_ret
  have hb := (R8.out.1.ke K1.out).b
  exact ⟨rfl, hb.os, hb.tape, hb.output, hb.size, fun k hk _ => hb.block k hk⟩
end Go.Proofs.Ytdfllobdefodfaa
