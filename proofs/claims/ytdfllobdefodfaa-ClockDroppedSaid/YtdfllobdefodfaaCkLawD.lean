/- ClockDropped: the walk. -/
import Derived.Test.YtdfllobdefodfaaCkHead
import Derived.Test.YtdfllobdefodfaaCkPl
import Derived.Test.YtdfllobdefodfaaCkOps
namespace Go.Proofs.Ytdfllobdefodfaa
set_option linter.unusedVariables false
set_option linter.unusedSimpArgs false
open Go.RowKit

/-- What the law's end asks, of any alarms. -/
structure DrM (S : List Ky) (k : Int) (o t : Nat) (S1 S2 S3 S4 S5 : List Ky) : Prop where
  e1 : outM k S = S1
  a1 : (atM k S1).isSome = false
  s2 : setE 0 S1 k (1 + (o : Int)) = 0 ∧ setS 0 S1 k (1 + (o : Int)) = S2
  s3 : setE 0 S2 k (1 + (t : Int)) = 0 ∧ setS 0 S2 k (1 + (t : Int)) = S3
  q : 1 ≤ S3.length ∧ S3.length ≤ 1024
  g3 : k ∉ goM (t : Int) S3
  e4 : stayM (t : Int) S3 = S4
  g4 : k ∈ goM ((t : Int) + 1) S4
  e5 : stayM ((t : Int) + 1) S4 = S5
  g5 : k ∉ goM ((t : Int) + 1 + 9000) S5
  l3 : (goM (t : Int) S3).length ≤ 1024
  l4 : (goM ((t : Int) + 1) S4).length ≤ 1024
  l5 : (goM ((t : Int) + 1 + 9000) S5).length ≤ 1024

theorem drM (S : List Ky) (k : Int) (o t : Nat) (ho : o ≤ 255) (ht : t ≤ 255) (hl : S.length ≤ 200) : ∃ S1 S2 S3 S4 S5, DrM S k o t S1 S2 S3 S4 S5 := by
  have l1 : (outM k S).length ≤ 200 := Nat.le_trans (out_length_le k S) hl
  have h2 := setE_ok (now := 0) (S := outM k S) (k := k) (t := 1 + (o : Int)) (by omega) (by omega)
  have l2 : (setM k (1 + (o : Int)) (outM k S)).length ≤ 201 := by
    have := set_length 0 (outM k S) k (1 + (o : Int))
    rw [h2.2] at this
    omega
  have h3 := setE_ok (now := 0) (S := setM k (1 + (o : Int)) (outM k S)) (k := k) (t := 1 + (t : Int)) (by omega) (by omega)
  have l3 : (setM k (1 + (t : Int)) (setM k (1 + (o : Int)) (outM k S))).length ≤ 202 := by
    have := set_length 0 (setM k (1 + (o : Int)) (outM k S)) k (1 + (t : Int))
    rw [h3.2] at this
    omega
  have hm : ∀ y ∈ setM k (1 + (t : Int)) (setM k (1 + (o : Int)) (outM k S)), y.1 = k → y.2 = 1 + (t : Int) := fun y hy e => by
    rcases setM_mem.1 hy with rfl | ⟨_, h⟩
    · rfl
    · exact absurd e h
  refine ⟨_, _, _, _, _, rfl, by rw [at_out]; rfl, h2, h3, ⟨set_pos _ _ _, by omega⟩, ?_, rfl, ?_, rfl, ?_, Nat.le_trans (go_length_le _ _) (by omega), Nat.le_trans (go_length_le _ _) (Nat.le_trans (List.length_filter_le _ _) (by omega)), Nat.le_trans (go_length_le _ _) (Nat.le_trans (List.length_filter_le _ _) (Nat.le_trans (List.length_filter_le _ _) (by omega)))⟩
  · intro h
    obtain ⟨y, hy, h1, h2⟩ := go_mem.1 h
    have := hm y hy h2
    omega
  · refine go_mem.2 ⟨(k, 1 + (t : Int)), stay_mem.2 ⟨setM_mem.2 (.inl rfl), ?_⟩, ?_, rfl⟩
    · show (t : Int) < 1 + (t : Int); omega
    · show 1 + (t : Int) ≤ (t : Int) + 1; omega
  · intro h
    obtain ⟨y, hy, h1, h2⟩ := go_mem.1 h
    obtain ⟨hy2, h3⟩ := stay_mem.1 hy
    obtain ⟨hy3, _⟩ := stay_mem.1 hy2
    have := hm y hy3 h2
    omega

set_option maxRecDepth 100000 in
set_option maxHeartbeats 8000000 in
theorem walk_ClockDropped (A : Option Addr) (l : List CoM) (n cp : Nat) (k a2 a3 : Int) (W : World) (w0 : InC W A l n cp) (w1 : Wf k) (w2 : (Lit.int .u8 a2).wf = true) (w3 : (Lit.int .u8 a3).wf = true) :
    Calls Try.prog 6 #[.slice A n cp, .int .i64 k, .int .u8 a2, .int .u8 a3] W fun e w' => e = .returned (.bool true) ∧ Below W.heap.size W w' := by
  have HH := Lib.hid (chead_ok W)
  have HIN := Lib.hid w0
  have hnm : n ≤ 9223372036854775807 := by have h1 := w0.cap; have h2 := w0.max; unfold maxLen at h2; omega
  have HWK := Lib.hid w1
  obtain ⟨o, rfl, ho⟩ := u8_nat' w2
  obtain ⟨t, rfl, ht⟩ := u8_nat' w3
  clear w0 w1 w2 w3
  go_enter Try.func6, Try.ntmps6
  go_upto_region 2 with (go_at_call 9; refine HH.out.mono ?_; rintro e u1 ⟨rfl, h1⟩)
  have HB1 := Lib.hid ((Below.refl W.heap.size W).trans (h1.below (Nat.le_refl _) (by simp)))
  clear h1
  go_upto_region 3 with (go_at_call 10; refine (w_new HB1.out).mono ?_; rintro e u2 ⟨G0, c, rfl, h1, _, _⟩)
  have R2 := Lib.hid h1
  clear h1
  by_cases hbig : 200 < n
  · have hb2 : (200 : Int) < (n : Int) := by omega
    go_wp2_with fail
    go_ret
    exact ⟨rfl, R2.out.b⟩
  · have hb2 : ¬ (200 : Int) < (n : Int) := by omega
    have hb3 : n ≤ 200 := by omega
    go_wp2_with fail
    go_loopw [11] (fun v11 wr => ∃ i : Nat, i ≤ n ∧ v11 = .int .i64 (i : Int) ∧ Hid (∃ G S, Cw W wr G c 0 S ∧ S.length ≤ i)) (fun v11 _ => n - (intOf v11).toNat)
    case atStart => exact ⟨0, by omega, rfl, Lib.hid ⟨_, _, R2.out, Nat.le_refl _⟩⟩
    case round =>
      obtain ⟨i, hi, rfl, HR⟩ := hrel
      obtain ⟨G, S, HC, hlen⟩ := HR.out
      have HCC := Lib.hid (And.intro HC hlen)
      clear HC hlen HR
      by_cases hin : i < n
      · have hi2 : (i : Int) < (n : Int) := by omega
        obtain ⟨b, o', m, rfl, _, hwf, hcl⟩ := HIN.out.at_ i hin
        obtain ⟨c0, c1, c2⟩ := hcl wr HCC.out.1.b
        have HWF := Lib.hid hwf
        clear hwf hcl
        go_wp2_with fail
        go_region_with (go_at_call 17; refine (w_set (HCC.out.1.ke (Ke.refl _ _).drew) m.id HWF.out.2.1 m.n _ _ rfl rfl).mono ?_; rintro e u3 ⟨G1, rfl, h1, _⟩; have R3 := Lib.hid h1; clear h1)
        all_goals go_wp2_with fail
        all_goals exact ⟨⟨i + 1, by omega, by go_num, Lib.hid ⟨_, _, R3.out, Nat.le_trans (set_length _ _ _ _) (by have := HCC.out.2; omega)⟩⟩, by simp [intOf]; omega⟩
      · have hi2 : ¬ (i : Int) < (n : Int) := by omega
        have hd : decide ((i : Int) < (n : Int)) = false := by simp; omega
        obtain ⟨S1, S2, S3, S4, S5, hdr⟩ := drM S k o t ho ht (by have := HCC.out.2; omega)
        have HD := Lib.hid hdr
        obtain ⟨q, hq⟩ : ∃ q, q = S3.length := ⟨_, rfl⟩
        have HQ := Lib.hid hq
        have hq1 : 1 ≤ q := by rw [hq]; exact hdr.q.1
        have hq2 : q ≤ 1024 := by rw [hq]; exact hdr.q.2
        have hq3 : (1 : Int) ≤ (q : Int) := by omega
        have HWT := Lib.hid (show Wf (t : Int) ∧ Wf 1 ∧ Wf 9000 from ⟨wf_nat (by omega), by decide, by decide⟩)
        have hq4 : (t : Int) + 1 = ((t + 1 : Nat) : Int) := by omega
        clear hdr hq hq4
        go_upto_region 10 with (go_at_call 12; refine (w_drop HCC.out.1 k HWK.out _ rfl).mono ?_; rintro e u3 ⟨rfl, h1, _⟩; have R3 := Lib.hid (show Cw W u3 G c 0 S1 from HD.out.e1 ▸ h1); clear h1)
        go_upto_region 11 with (go_at_call 19; refine (w_at R3.out k HWK.out _ false rfl HD.out.a1).mono ?_; rintro e u4 ⟨rfl, rfl⟩)
        go_upto_region 12 with (go_at_call 17; refine (w_set R3.out k HWK.out _ 0 S2 HD.out.s2.1 HD.out.s2.2).mono ?_; rintro e u5 ⟨G5, rfl, h1, _⟩; have R5 := Lib.hid h1; clear h1)
        go_upto_region 13 with (go_at_call 17; refine (w_set R5.out k HWK.out _ 0 S3 HD.out.s3.1 HD.out.s3.2).mono ?_; rintro e u6 ⟨G6, rfl, h1, _⟩; have R6 := Lib.hid h1; clear h1)
        go_upto_region 14 with (go_at_call 22; refine (w_many R6.out q HQ.out.symm).mono ?_; rintro e u7 ⟨rfl, rfl⟩)
        obtain ⟨L3, hL3⟩ : ∃ L3, goM (t : Int) S3 = L3 := ⟨_, rfl⟩
        obtain ⟨m3, hm3⟩ : ∃ m3, L3.length = m3 := ⟨_, rfl⟩
        obtain ⟨L4, hL4⟩ : ∃ L4, goM ((t : Int) + 1) S4 = L4 := ⟨_, rfl⟩
        obtain ⟨m4, hm4⟩ : ∃ m4, L4.length = m4 := ⟨_, rfl⟩
        obtain ⟨L5, hL5⟩ : ∃ L5, goM ((t : Int) + 1 + 9000) S5 = L5 := ⟨_, rfl⟩
        obtain ⟨m5, hm5⟩ : ∃ m5, L5.length = m5 := ⟨_, rfl⟩
        have HL := Lib.hid (show (goM (t : Int) S3 = L3 ∧ L3.length = m3 ∧ decide (k ∈ L3) = false) ∧ (goM ((t : Int) + 1) S4 = L4 ∧ L4.length = m4 ∧ decide (k ∈ L4) = true) ∧ (goM ((t : Int) + 1 + 9000) S5 = L5 ∧ L5.length = m5 ∧ decide (k ∈ L5) = false) from
          ⟨⟨hL3, hm3, by rw [← hL3]; simp [HD.out.g3]⟩, ⟨hL4, hm4, by rw [← hL4]; simp [HD.out.g4]⟩, ⟨hL5, hm5, by rw [← hL5]; simp [HD.out.g5]⟩⟩)
        have hm3b : m3 ≤ 1024 := by rw [← hm3, ← hL3]; exact HD.out.l3
        have hm4b : m4 ≤ 1024 := by rw [← hm4, ← hL4]; exact HD.out.l4
        have hm5b : m5 ≤ 1024 := by rw [← hm5, ← hL5]; exact HD.out.l5
        clear hL3 hm3 hL4 hm4 hL5 hm5
        go_upto_region 15 with (go_at_call 14; refine (w_tick R6.out (t : Int) HWT.out.1 (by omega) (by omega) (t : Int) L3 S4 m3 (by omega) HL.out.1.1 HD.out.e4 HL.out.1.2.1).mono ?_; rintro e u8 ⟨A3, cp3, rfl, h1, h2, h3, h4, h5, _⟩; have R8 := Lib.hid (And.intro h5 h1); clear h1 h4 h5)
        go_upto_region 16 with (go_at_call 23; refine (has_b A3 cp3 L3 _ _ m3 k false HL.out.1.2.2 HL.out.1.2.1 R8.out.2 (by omega)).mono ?_; rintro e u9 ⟨rfl, rfl⟩)
        go_upto_region 17 with (go_at_call 14; refine (w_tick R8.out.1 1 HWT.out.2.1 (by omega) (by omega) ((t : Int) + 1) L4 S5 m4 rfl HL.out.2.1.1 HD.out.e5 HL.out.2.1.2.1).mono ?_; rintro e u10 ⟨A4, cp4, rfl, h1, h6, h7, h4, h5, _⟩; have R10 := Lib.hid (And.intro h5 h1); clear h1 h4 h5)
        go_upto_region 18 with (go_at_call 14; refine (w_tick R10.out.1 9000 HWT.out.2.2 (by omega) (by omega) ((t : Int) + 1 + 9000) L5 _ m5 rfl HL.out.2.2.1 rfl HL.out.2.2.2.1).mono ?_; rintro e u11 ⟨A5, cp5, rfl, h1, h8, h9, h4, h5, hs⟩; have R11 := Lib.hid (And.intro h5 (And.intro h1 (R10.out.2.step hs))); clear h1 h4 h5 hs)
        have H4 := Lib.hid (has_b A4 cp4 L4 _ _ m4 k true HL.out.2.1.2.2 HL.out.2.1.2.1 R11.out.2.2 (by omega))
        have H5 := Lib.hid (has_b A5 cp5 L5 _ _ m5 k false HL.out.2.2.2.2 HL.out.2.2.2.1 R11.out.2.1 (by omega))
        go_wp2_with (first
          | (go_at_call 23; with_reducible refine H4.out.mono ?_; rintro e u12 ⟨rfl, rfl⟩)
          | (go_at_call 23; with_reducible refine H5.out.mono ?_; rintro e u13 ⟨rfl, rfl⟩))
        go_ret
        exact ⟨rfl, R11.out.1.b⟩
end Go.Proofs.Ytdfllobdefodfaa
