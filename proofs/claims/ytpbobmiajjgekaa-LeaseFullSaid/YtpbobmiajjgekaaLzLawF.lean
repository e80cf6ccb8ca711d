/- LeaseFull: there are never more leases than may be: the walk. (Written by gen_lzfl.py.) -/
import Derived.Test.YtpbobmiajjgekaaLzU
namespace Go.Proofs.Ytpbobmiajjgekaa
set_option linter.unusedVariables false
set_option maxRecDepth 100000
set_option linter.unusedSimpArgs false
open Go.RowKit

set_option maxRecDepth 100000 in
set_option maxHeartbeats 16000000 in
theorem walk_LeaseFull (M0 K0 N : Nat) (W : World) (hM0 : M0 < 256) (hK0 : K0 < 256) (hN : N < 256) :
    Calls Try.prog 8 #[.int .u8 (M0 : Int), .int .u8 (K0 : Int), .int .u8 (N : Int)] W fun e w' => e = .returned (.bool true) ∧ Below W.heap.size W w' := by
  have HHD := Lib.hid (fun u => lzhead_ok u)
  have HNEW := Lib.hid (fun u (hb : Below W.heap.size W u) => w_lnew (W := W) (u := u) (g := 5) (most := 1000) hb (by decide) (by decide))
  obtain ⟨n, hn⟩ : ∃ n, M0 % 80 = n := ⟨_, rfl⟩
  obtain ⟨k, hk⟩ : ∃ k, K0 % 90 = k := ⟨_, rfl⟩
  have hn80 : n < 80 := by rw [← hn]; exact Nat.mod_lt _ (by omega)
  have hk90 : k < 90 := by rw [← hk]; exact Nat.mod_lt _ (by omega)
  have hr1 : (M0 : Int) % 80 = (n : Int) := by rw [← hn]; rfl
  have hr2 : (K0 : Int) % 90 = (k : Int) := by rw [← hk]; rfl
  have HR2 := Lib.hid hr2
  have hw1 : IntKind.i64.wrap (n : Int) = (n : Int) := (iwrap _ n rfl (by omega)).1
  have hw2 : IntKind.i64.wrap (k : Int) = (k : Int) := (iwrap _ k rfl (by omega)).1
  have hw3 : IntKind.i64.wrap (N : Int) = (N : Int) := (iwrap _ N rfl (by omega)).1
  clear hn hk hr2
  go_enter Try.func8, Try.ntmps8
  go_upto_region 5 with (first | (go_at_call 10; (with_reducible refine (HHD.out _).mono ?_); rintro e u1 ⟨rfl, hb⟩; have HB1 := Lib.hid hb; clear hb) | (go_at_call 11; (with_reducible refine (HNEW.out _ HB1.out).mono ?_); rintro e u2 ⟨G, gb, rfl, h1, -, -⟩; have HL2 := Lib.hid h1; clear h1))
  go_upto_region 6 with fail
  try rw [hr1]
  try rw [hw1]
  clear hr1 hw1
  go_wp2_with fail
  go_loopw [10] (fun v10 wr => ∃ (i : Nat) (G : List Nat) (b : Bo), i ≤ n ∧ v10 = .int .i64 (i : Int) ∧ Hid (Lw W wr G gb 5 1000 b) ∧ Hid (FuI b i)) (fun v10 _ => n - (intOf v10).toNat)
  case atStart => exact ⟨0, G, ⟨[], 1⟩, by omega, rfl, HL2, Lib.hid ⟨(fun y hy => (by cases hy)), (fun k hk => (by simp at hk)), rfl, by decide⟩⟩
  case round =>
    obtain ⟨i, G1, b, hi, rfl, HL, HF⟩ := hrel
    have HNX := Lib.hid (show b.nx ≤ 1000000 by have := HF.out.x; omega)
    have HUP := Lib.hid HL.out.ok.up
    by_cases hi1 : i < n
    · have hi2 : (i : Int) < (n : Int) := by omega
      by_cases h64 : i < 64
      · have hi3 : (i : Int) < 64 := by omega
        have hi4 : decide ((i : Int) ≥ 64) = false := decide_eq_false (by omega)
        have hi5 : decide ((64 : Int) ≤ (i : Int)) = false := decide_eq_false (by omega)
        have hi6 : decide (i < 64) = true := decide_eq_true h64
        obtain ⟨⟨xn, xt, xc, xe, xu, xh⟩, h1, h2⟩ := fu_next HF.out HUP.out h64
        have HR := Lib.hid (show claimL 5 1000 b ⟨#[97, 110, 110]⟩ (wordB i) 1 0 10 = ((⟨xn, xt, xc, xe, xu, xh⟩ : Ls), 0, ⟨ptL ⟨xn, xt, xc, xe, xu, xh⟩ b.l, b.nx + 1⟩) from h1)
        have HF2 := Lib.hid h2
        have HWS := Lib.hid (show (wordB i).size ≤ 140737488355328 by unfold wordB; show 2 ≤ 140737488355328; omega)
        clear h1 h2
        go_wp2_with (first
          | (go_at_call 32; (with_reducible refine (word_ok i (by omega) _).mono ?_); rintro e u4 ⟨rfl, hb⟩; have HL4 := Lib.hid (HL.out.on hb); clear hb)
          | (go_at_call 25; (with_reducible refine (w_claim HL4.out ⟨#[97, 110, 110]⟩ (wordB i) 1 0 10 (by decide) HWS.out HNX.out _ HR.out).mono ?_); rintro e u5 ⟨G5, rfl, h1, -⟩; have HL5 := Lib.hid h1; clear h1))
        go_roundw
        case rel => exact ⟨i + 1, G5, _, by omega, by go_num, Lib.hid (HL5.out.on ((Below.refl _ _).alloc (Nat.le_refl _) _)), HF2⟩
        case measure => simp [intOf]; omega
      · have hi3 : ¬ (i : Int) < 64 := by omega
        have hi4 : (i : Int) ≥ 64 := by omega
        have hi5 : decide ((i : Int) < 64) = false := decide_eq_false hi3
        have hi6 : decide (i < 64) = false := decide_eq_false h64
        have hi7 : decide ((64 : Int) ≤ (i : Int)) = true := decide_eq_true hi4
        obtain ⟨h1, h2⟩ := fu_stay HF.out (by omega) (by omega)
        have HR := Lib.hid (show claimL 5 1000 b ⟨#[97, 110, 110]⟩ (wordB i) 1 0 10 = ((⟨⟨#[]⟩, ⟨#[]⟩, 0, 0, 0, false⟩ : Ls), 2, b) from h1)
        have HF2 := Lib.hid h2
        have HWS := Lib.hid (show (wordB i).size ≤ 140737488355328 by unfold wordB; show 2 ≤ 140737488355328; omega)
        clear h1 h2
        go_wp2_with (first
          | (go_at_call 32; (with_reducible refine (word_ok i (by omega) _).mono ?_); rintro e u4 ⟨rfl, hb⟩; have HL4 := Lib.hid (HL.out.on hb); clear hb)
          | (go_at_call 25; (with_reducible refine (w_claim HL4.out ⟨#[97, 110, 110]⟩ (wordB i) 1 0 10 (by decide) HWS.out HNX.out _ HR.out).mono ?_); rintro e u5 ⟨G5, rfl, h1, -⟩; have HL5 := Lib.hid h1; clear h1))
        go_roundw
        case rel => exact ⟨i + 1, G5, _, by omega, by go_num, Lib.hid (HL5.out.on ((Below.refl _ _).alloc (Nat.le_refl _) _)), HF2⟩
        case measure => simp [intOf]; omega
    · have hi2 : ¬ (i : Int) < (n : Int) := by omega
      obtain rfl : i = n := by omega
      have hr2 := HR2.out
      obtain ⟨M, hM⟩ : ∃ M, min i 64 = M := ⟨_, rfl⟩
      have hmin : min (i : Int) 64 = (M : Int) := by omega
      have HMM := Lib.hid hM
      have hcase := fu_again (N := N) HF.out HUP.out (by omega) hk90 hN
      rw [hM] at hcase
      have HWS := Lib.hid (show (wordB k).size ≤ 140737488355328 by unfold wordB; show 2 ≤ 140737488355328; omega)
      clear hi1 hi
      rcases hcase with ⟨c1, c2, c3⟩ | ⟨c1, c2, ⟨xn, xt, xc, xe, xu, xh⟩, c3, c4⟩ | ⟨c1, c2, ⟨xn, xt, xc, xe, xu, xh⟩, c3⟩ | ⟨c1, c2, c3⟩
      · have k1 : (k : Int) < (M : Int) := by omega
        have k2 : decide ((N : Int) ≥ 10) = false := decide_eq_false (by omega)
        have k3 : decide ((10 : Int) ≤ (N : Int)) = false := decide_eq_false (by omega)
        have k4 : decide (10 ≤ N) = false := decide_eq_false (by omega)
        have HR := Lib.hid (show claimL 5 1000 b ⟨#[97, 110, 110]⟩ (wordB k) 2 (N : Int) 10 = ((⟨⟨#[]⟩, ⟨#[]⟩, 0, 0, 0, false⟩ : Ls), 4, b) from c3)
        have HLN := Lib.hid (show b.l.length = M by rw [← HMM.out]; exact HF.out.n)
        clear c3
        go_upto_region 13 with fail
        try rw [hr2]
        try rw [hw2]
        clear hr2
        go_wp2_with (first | (go_at_call 32; (with_reducible refine (word_ok k hk90 _).mono ?_); rintro e u6 ⟨rfl, hb⟩; have HL6 := Lib.hid (HL.out.on hb); clear hb) | (go_at_call 25; (with_reducible refine (w_claim HL6.out ⟨#[97, 110, 110]⟩ (wordB k) 2 (N : Int) 10 (by decide) HWS.out HNX.out _ HR.out).mono ?_); rintro e u7 ⟨G7, rfl, h1, -⟩; have HL7 := Lib.hid (h1.on ((Below.refl _ _).alloc (Nat.le_refl _) (.cells #[.string ⟨#[]⟩, .string ⟨#[]⟩, .int .i64 0, .int .i64 0, .int .i64 0, .bool false] 32))); clear h1) | (go_at_call 29; (with_reducible refine (w_all HL7.out M HLN.out).mono ?_); rintro e u8 ⟨A8, c8, rfl, -, -, hb⟩; have HL8 := Lib.hid (HL7.out.on hb); clear hb))
        go_ret
        exact ⟨by first | rfl | simp, HL8.out.l⟩
      · have k1 : (k : Int) < (M : Int) := by omega
        have k2 : (N : Int) ≥ 10 := by omega
        have k3 : decide ((10 : Int) ≤ (N : Int)) = true := decide_eq_true k2
        have k4 : decide (10 ≤ N) = true := decide_eq_true c2
        have HR := Lib.hid (show claimL 5 1000 b ⟨#[97, 110, 110]⟩ (wordB k) 2 (N : Int) 10 = _ from c3)
        have HLN := Lib.hid c4
        clear c3 c4
        go_upto_region 13 with fail
        try rw [hr2]
        try rw [hw2]
        clear hr2
        go_wp2_with (first | (go_at_call 32; (with_reducible refine (word_ok k hk90 _).mono ?_); rintro e u6 ⟨rfl, hb⟩; have HL6 := Lib.hid (HL.out.on hb); clear hb) | (go_at_call 25; (with_reducible refine (w_claim HL6.out ⟨#[97, 110, 110]⟩ (wordB k) 2 (N : Int) 10 (by decide) HWS.out HNX.out _ HR.out).mono ?_); rintro e u7 ⟨G7, rfl, h1, -⟩; have HL7 := Lib.hid (h1.on ((Below.refl _ _).alloc (Nat.le_refl _) (.cells #[.string xn, .string xt, .int .i64 xc, .int .i64 xe, .int .i64 xu, .bool xh] 32))); clear h1) | (go_at_call 29; (with_reducible refine (w_all HL7.out M HLN.out).mono ?_); rintro e u8 ⟨A8, c8, rfl, -, -, hb⟩; have HL8 := Lib.hid (HL7.out.on hb); clear hb))
        go_ret
        exact ⟨by first | rfl | simp, HL8.out.l⟩
      · have k1 : ¬ (k : Int) < (M : Int) := by omega
        have k1b : decide ((k : Int) < (M : Int)) = false := decide_eq_false k1
        have k1c : decide (k < M) = false := decide_eq_false (by omega)
        have k2 : (i : Int) < 64 := by omega
        have k3 : decide (i < 64) = true := decide_eq_true c2
        have HR := Lib.hid (show claimL 5 1000 b ⟨#[97, 110, 110]⟩ (wordB k) 2 (N : Int) 10 = _ from c3)
        clear c3
        go_upto_region 13 with fail
        try rw [hr2]
        try rw [hw2]
        clear hr2
        go_wp2_with (first | (go_at_call 32; (with_reducible refine (word_ok k hk90 _).mono ?_); rintro e u6 ⟨rfl, hb⟩; have HL6 := Lib.hid (HL.out.on hb); clear hb) | (go_at_call 25; (with_reducible refine (w_claim HL6.out ⟨#[97, 110, 110]⟩ (wordB k) 2 (N : Int) 10 (by decide) HWS.out HNX.out _ HR.out).mono ?_); rintro e u7 ⟨G7, rfl, h1, -⟩; have HL7 := Lib.hid (h1.on ((Below.refl _ _).alloc (Nat.le_refl _) (.cells #[.string xn, .string xt, .int .i64 xc, .int .i64 xe, .int .i64 xu, .bool xh] 32))); clear h1))
        go_ret
        exact ⟨by first | rfl | simp, HL7.out.l⟩
      · have k1 : ¬ (k : Int) < (M : Int) := by omega
        have k1b : decide ((k : Int) < (M : Int)) = false := decide_eq_false k1
        have k1c : decide (k < M) = false := decide_eq_false (by omega)
        have k2 : decide ((i : Int) < 64) = false := decide_eq_false (by omega)
        have k3 : decide (i < 64) = false := decide_eq_false (by omega)
        have HR := Lib.hid (show claimL 5 1000 b ⟨#[97, 110, 110]⟩ (wordB k) 2 (N : Int) 10 = ((⟨⟨#[]⟩, ⟨#[]⟩, 0, 0, 0, false⟩ : Ls), 2, b) from c3)
        clear c3
        go_upto_region 13 with fail
        try rw [hr2]
        try rw [hw2]
        clear hr2
        go_wp2_with (first | (go_at_call 32; (with_reducible refine (word_ok k hk90 _).mono ?_); rintro e u6 ⟨rfl, hb⟩; have HL6 := Lib.hid (HL.out.on hb); clear hb) | (go_at_call 25; (with_reducible refine (w_claim HL6.out ⟨#[97, 110, 110]⟩ (wordB k) 2 (N : Int) 10 (by decide) HWS.out HNX.out _ HR.out).mono ?_); rintro e u7 ⟨G7, rfl, h1, -⟩; have HL7 := Lib.hid (h1.on ((Below.refl _ _).alloc (Nat.le_refl _) (.cells #[.string ⟨#[]⟩, .string ⟨#[]⟩, .int .i64 0, .int .i64 0, .int .i64 0, .bool false] 32))); clear h1))
        go_ret
        exact ⟨by first | rfl | simp, HL7.out.l⟩
end Go.Proofs.Ytpbobmiajjgekaa
