/- ClockFull: the walk. -/
import Derived.Test.YtdfllobdefodfaaCkHead
import Derived.Test.YtdfllobdefodfaaCkPl
import Derived.Test.YtdfllobdefodfaaKe
namespace Go.Proofs.Ytdfllobdefodfaa
set_option linter.unusedVariables false
set_option linter.unusedSimpArgs false
open Go.RowKit

theorem Below.ke00 {W u u' : World} (h : Below W.heap.size W u) (k : Ke [] u u') : Below W.heap.size W u' := h.trans (k.below h.size (by simp))

set_option maxRecDepth 100000 in
set_option maxHeartbeats 8000000 in
theorem walk_ClockFull (a0 a1 : Int) (W : World) (w0 : (Lit.int .u16 a0).wf = true) (w1 : (Lit.int .u16 a1).wf = true) :
    Calls Try.prog 7 #[.int .u16 a0, .int .u16 a1] W fun e w' => e = .returned (.bool true) ∧ Below W.heap.size W w' := by
  have HH := Lib.hid (chead_ok W)
  obtain ⟨M, rfl, hM⟩ := u16_nat w0
  obtain ⟨K, rfl, hK⟩ := u16_nat w1
  clear w0 w1
  obtain ⟨N, hN⟩ : ∃ N, N = M % 1100 := ⟨_, rfl⟩
  have hq : (M : Int).tmod 1100 = (N : Int) := by rw [hN]; rfl
  have hN1 : N < 1100 := by omega
  obtain ⟨m, hm⟩ : ∃ m, m = min N 1024 := ⟨_, rfl⟩
  have HMIN := Lib.hid (show min (N : Int) 1024 = (m : Int) by omega)
  have HMD := Lib.hid hm
  have hm4 : m ≤ 1024 := by omega
  have HWK := Lib.hid (wf_nat (k := K) (by omega))
  clear hN hm
  go_enter Try.func7, Try.ntmps7
  go_upto_region 2 with (go_at_call 9; refine HH.out.mono ?_; rintro e u1 ⟨rfl, h1⟩)
  have HB1 := Lib.hid (Below.ke00 (Below.refl _ W) h1)
  clear h1
  go_upto_region 3 with (go_at_call 10; refine (w_new HB1.out).mono ?_; rintro e u2 ⟨G0, c, rfl, h1, _, _⟩)
  have R2 := Lib.hid h1
  clear h1
  go_wp2_with fail
  go_loopw [8] (fun v8 wr => ∃ i : Nat, i ≤ N ∧ v8 = .int .i64 (i : Int) ∧ Hid (∃ G, Cw W wr G c 0 (fullS (min i 1024)))) (fun v8 _ => N - (intOf v8).toNat)
  case atStart => exact ⟨0, by omega, rfl, Lib.hid ⟨_, R2.out⟩⟩
  case round =>
    obtain ⟨i, hi, rfl, HR⟩ := hrel
    obtain ⟨G, HC⟩ := HR.out
    have HWI := Lib.hid (wf_nat (k := i) (by omega))
    by_cases hin : i < N
    · have hi2 : (i : Int) < (N : Int) := by omega
      by_cases hfull : i < 1024
      · have hf2 : (i : Int) < 1024 := by omega
        have hf3 : ¬ (1024 : Int) ≤ (i : Int) := by omega
        have hf4 : decide ((1024 : Int) ≤ (i : Int)) = false := by simp; omega
        have e1 : min i 1024 = i := by omega
        have e2 : min (i + 1) 1024 = i + 1 := by omega
        rw [e1] at HC
        have HCC := Lib.hid HC
        have HE2 := Lib.hid e2
        clear HC e1 e2 HR
        go_wp2_with (go_at_call 17; refine (w_set HCC.out i HWI.out (5 + (i : Int)) 0 (fullS (i + 1)) (full_room i hfull).1 (full_room i hfull).2).mono ?_; rintro e u3 ⟨G1, rfl, h1, _⟩; have R3 := Lib.hid h1; clear h1)
        go_roundw
        case rel => exact ⟨i + 1, by omega, by go_num, Lib.hid ⟨_, by rw [HE2.out]; exact R3.out⟩⟩
        case measure => simp [intOf]; omega
      · have hf2 : ¬ (i : Int) < 1024 := by omega
        have hf3 : (1024 : Int) ≤ (i : Int) := by omega
        have hf4 : decide ((i : Int) < 1024) = false := by simp; omega
        have hf5 : 1024 ≤ i := by omega
        have e1 : min i 1024 = 1024 := by omega
        have e2 : min (i + 1) 1024 = 1024 := by omega
        rw [e1] at HC
        have HCC := Lib.hid HC
        have HE2 := Lib.hid e2
        have HFN := Lib.hid (full_none i hf5 (by omega))
        clear HC e1 e2 HR
        go_wp2_with (go_at_call 17; refine (w_set HCC.out i HWI.out (5 + (i : Int)) 2 (fullS 1024) HFN.out.1 HFN.out.2).mono ?_; rintro e u3 ⟨G1, rfl, h1, _⟩; have R3 := Lib.hid h1; clear h1)
        go_roundw
        case rel => exact ⟨i + 1, by omega, by go_num, Lib.hid ⟨_, by rw [HE2.out]; exact R3.out⟩⟩
        case measure => simp [intOf]; omega
    · have hi2 : ¬ (i : Int) < (N : Int) := by omega
      have hd : decide ((i : Int) < (N : Int)) = false := by simp; omega
      have e1 : min i 1024 = m := by have := HMD.out; omega
      rw [e1] at HC
      have HCC := Lib.hid HC
      clear HC e1 HR
      by_cases hok : K < m ∨ N < 1024
      · have HSE := Lib.hid (setE_ok (now := 0) (S := fullS m) (k := (K : Int)) (t := 3) (by omega) (by rw [fullS_length, fullS_at]; have := HMD.out; omega))
        obtain ⟨q, hq2⟩ : ∃ q, q = (setM (K : Int) 3 (fullS m)).length := ⟨_, rfl⟩
        have HQ := Lib.hid hq2
        clear hq2
        have HAT := Lib.hid (atM_set (K : Int) 3 (fullS m))
        by_cases hkm : K < m
        · have hk2 : (K : Int) < (m : Int) := by omega
          go_upto_region 14 with (go_at_call 17; refine (w_set HCC.out K HWK.out 3 0 _ HSE.out.1 HSE.out.2).mono ?_; rintro e u3 ⟨G1, rfl, h1, _⟩; have R3 := Lib.hid h1; clear h1)
          have hqf : q ≤ 1024 := by have := R3.out.ck.few; rw [← HQ.out] at this; exact this
          have hqi : ¬ (1024 : Int) < (q : Int) := by omega
          go_wp2_with (first
            | (refine wpList_min rfl (.tmp 50) (.const (.int .i64 1024)) 3 rfl _ _ _ rfl rfl HMIN.out ?_)
            | (go_at_call 22; refine (w_many R3.out q HQ.out.symm).mono ?_; rintro e w3 ⟨rfl, rfl⟩)
            | (go_at_call 19; refine (w_at R3.out K HWK.out 3 true (by rw [HAT.out]; rfl) (by rw [HAT.out]; rfl)).mono ?_; rintro e u4 ⟨rfl, rfl⟩))
          go_ret
          exact ⟨rfl, R3.out.b⟩
        · have hk2 : ¬ (K : Int) < (m : Int) := by omega
          have hd2 : decide ((K : Int) < (m : Int)) = false := by simp; omega
          have hn4 : N < 1024 := by omega
          have hn5 : (N : Int) < 1024 := by omega
          go_upto_region 14 with (go_at_call 17; refine (w_set HCC.out K HWK.out 3 0 _ HSE.out.1 HSE.out.2).mono ?_; rintro e u3 ⟨G1, rfl, h1, _⟩; have R3 := Lib.hid h1; clear h1)
          have hqf : q ≤ 1024 := by have := R3.out.ck.few; rw [← HQ.out] at this; exact this
          have hqi : ¬ (1024 : Int) < (q : Int) := by omega
          go_wp2_with (first
            | (refine wpList_min rfl (.tmp 50) (.const (.int .i64 1024)) 3 rfl _ _ _ rfl rfl HMIN.out ?_)
            | (go_at_call 22; refine (w_many R3.out q HQ.out.symm).mono ?_; rintro e w3 ⟨rfl, rfl⟩)
            | (go_at_call 19; refine (w_at R3.out K HWK.out 3 true (by rw [HAT.out]; rfl) (by rw [HAT.out]; rfl)).mono ?_; rintro e u4 ⟨rfl, rfl⟩))
          go_ret
          exact ⟨rfl, R3.out.b⟩
      · have hk2 : ¬ (K : Int) < (m : Int) := by omega
        have hd2 : decide ((K : Int) < (m : Int)) = false := by simp; omega
        have hn5 : ¬ (N : Int) < 1024 := by omega
        have hn6 : decide ((N : Int) < 1024) = false := by simp; omega
        have HSE := Lib.hid (setE_many (now := 0) (S := fullS m) (k := (K : Int)) (t := 3) (by omega) (by rw [fullS_length, fullS_at]; have := HMD.out; omega))
        have HAT := Lib.hid ((fullS_at m K).2 (by omega))
        go_upto_region 14 with (go_at_call 17; refine (w_set HCC.out K HWK.out 3 2 _ HSE.out.1 HSE.out.2).mono ?_; rintro e u3 ⟨G1, rfl, h1, _⟩; have R3 := Lib.hid h1; clear h1)
        have hqi : ¬ (1024 : Int) < (m : Int) := by omega
        go_wp2_with (first
          | (refine wpList_min rfl (.tmp 50) (.const (.int .i64 1024)) 3 rfl _ _ _ rfl rfl HMIN.out ?_)
          | (go_at_call 22; refine (w_many R3.out m (fullS_length m)).mono ?_; rintro e w3 ⟨rfl, rfl⟩)
          | (go_at_call 19; refine (w_at R3.out K HWK.out 0 false (by rw [HAT.out]; rfl) (by rw [HAT.out]; rfl)).mono ?_; rintro e u4 ⟨rfl, rfl⟩))
        go_ret
        exact ⟨rfl, R3.out.b⟩
end Go.Proofs.Ytdfllobdefodfaa
