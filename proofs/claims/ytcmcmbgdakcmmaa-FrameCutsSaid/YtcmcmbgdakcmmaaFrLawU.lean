/- The walk of FrameCuts. -/
import Derived.Test.YtcmcmbgdakcmmaaFrHead
import Derived.Test.YtcmcmbgdakcmmaaFrLib
import Derived.Test.YtcmcmbgdakcmmaaHere
import Derived.Deep.Cut
namespace Go.Proofs.Ytcmcmbgdakcmmaa
set_option linter.unusedVariables false
set_option linter.unusedSimpArgs false
open Go.RowKit

set_option maxRecDepth 100000 in
set_option maxHeartbeats 8000000 in
theorem walk_FrameCuts (A : Option Addr) (l : List UInt8) (n c : Nat) (W : World) (w0 : InB W A l n c) :
    Calls Try.prog 8 #[.slice A n c] W fun e w' => e = .returned (.bool true) ∧ Below W.heap.size W w' := by
  have HNL := Lib.hid w0.nil_
  have HL := Lib.hid w0.len
  have HRB := Lib.hid w0.rb
  clear w0
  go_enter Try.func8, Try.ntmps8
  go_wp2_with fail
  refine (fhead_ok _).mono ?_
  rintro e w1 ⟨rfl, hb1⟩
  have B1 := Lib.hid hb1
  clear hb1
  have R1 := Lib.hid (HRB.out.on B1.out)
  have HPUT := Lib.hid (put_ok A n c l w1 HL.out HNL.out R1.out)
  obtain ⟨P, hP⟩ : ∃ P, putF l = P := ⟨_, rfl⟩
  have HBG := Lib.hid (fun i (h : i < P.length) => (by rw [← hP] at h ⊢; exact put_begin l i h : lenF (P.take i) = 0 ∧ begB (P.take i) = true))
  have HFI := Lib.hid (by rw [← hP]; exact put_first l : lenF P = P.length ∧ begB P = true ∧ (P ≠ [] → partF P = l))
  have HSM := Lib.hid (by rw [← hP]; (cases h : fineB l with | true => (have := put_len l h; have h2 := (fine_iff l).1 h; omega) | false => (rw [put_none l h]; simp)) : P.length ≤ 202)
  rw [hP] at HPUT
  obtain ⟨p, hp⟩ : ∃ p, P.length = p := ⟨_, rfl⟩
  rw [hp] at HPUT
  have HP := Lib.hid hp
  have hp2 : p ≤ 202 := by rw [← hp]; exact HSM.out
  clear hP hp
  go_wp2_with fail
  refine HPUT.out.mono ?_
  rintro e w2 ⟨A2, c2, rfl, ho2, hn2, hb2⟩
  have R2 := Lib.hid (And.intro (R1.out.on hb2) (And.intro ho2.rb (B1.out.trans (hb2.mono B1.out.size))))
  have hcap := ho2.cap.1
  have hcm := ho2.cap.2
  have hcp : p ≤ c2 := by rw [← HP.out]; exact hcap
  clear ho2 hn2 hb2 HPUT hcap
  go_wp2_with fail
  go_loopw [5] (fun v5 wr => ∃ i : Nat, i ≤ p ∧ v5 = .int .i64 (i : Int) ∧ Hid (Below w2.heap.size w2 wr)) (fun v5 _ => p - (intOf v5).toNat)
  case atStart => exact ⟨0, by omega, rfl, Lib.hid (Below.refl _ _)⟩
  case round =>
    obtain ⟨i, hi, rfl, HB⟩ := hrel
    have RW := Lib.hid (And.intro (R2.out.1.on HB.out) (And.intro (R2.out.2.1.on HB.out) (R2.out.2.2.trans (HB.out.mono R2.out.2.2.size))))
    by_cases hi1 : i < p
    · have hi2 : (i : Int) < (p : Int) := by omega
      have hi3 : (i : Int) ≤ (c2 : Int) := by omega
      have hi4 : (i : Int) ≤ (p : Int) := by omega
      obtain ⟨z1, z2⟩ := HBG.out i (by rw [HP.out]; exact hi1)
      have HF := first_ok A2 i c2 (P.take i) wr (by rw [List.length_take, HP.out]; omega) (by omega) hcm (RW.out.2.1.front i)
      rw [z1, part_nil _ z1, err_ok _ z2] at HF
      have HF := Lib.hid HF
      clear z1 z2
      go_wp2_with fail
      refine HF.out.mono ?_
      rintro e w4 ⟨A4, c4, rfl, ho4, hn4, hb4⟩
      have HB4 := Lib.hid hb4
      clear ho4 hn4 hb4 HF
      go_wp2_with fail
      go_roundw
      case rel => exact ⟨i + 1, by omega, by go_num, Lib.hid (HB.out.trans (HB4.out.mono HB.out.size))⟩
      case measure => simp [intOf]; omega
    · have hi3 : i = p := by omega
      have hi2 : decide ((i : Int) < (p : Int)) = false := decide_eq_false (by omega)
      have HF := first_ok A2 p c2 P wr HP.out hcp hcm RW.out.2.1
      rw [HFI.out.1, HP.out, err_ok _ HFI.out.2.1] at HF
      have HF := Lib.hid HF
      clear hi3
      by_cases hp0 : p = 0
      · subst hp0
        go_wp2_with fail
        refine HF.out.mono ?_
        rintro e w4 ⟨A4, c4, rfl, ho4, hn4, hb4⟩
        have HB4 := Lib.hid (RW.out.2.2.trans (hb4.mono RW.out.2.2.size))
        clear ho4 hn4 hb4 HF
        go_wp2_with fail
        go_ret
        exact ⟨rfl, HB4.out⟩
      · have hx := HFI.out.2.2 (by intro h; have := HP.out; rw [h] at this; simp at this; omega)
        rw [hx, HL.out] at HF
        have e0 : ((p : Int) == 0) = false := by rw [beq_eq_false_iff_ne]; omega
        clear hx
        go_wp2_with fail
        refine HF.out.mono ?_
        rintro e w4 ⟨A4, c4, rfl, ho4, hn4, hb4⟩
        have HB4 := Lib.hid (RW.out.2.2.trans (hb4.mono RW.out.2.2.size))
        have HX4 := Lib.hid ho4.rb
        have HX5 := Lib.hid (RW.out.1.on hb4)
        clear ho4 hn4 hb4 HF
        go_wp2_with (first | (refine wpList_conv (by kernel_rfl) 22 5 9 (.tmp 62) rfl A4 n c4 l rfl HL.out HX4.out Try.underlying22 Try.underlying5 Try.underlying9 ?_) | (refine wpList_conv (by kernel_rfl) 22 5 9 (.tmp 64) rfl A n c l rfl HL.out HX5.out Try.underlying22 Try.underlying5 Try.underlying9 ?_))
        go_ret
        exact ⟨rfl, HB4.out⟩
end Go.Proofs.Ytcmcmbgdakcmmaa
