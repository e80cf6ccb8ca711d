/- The walk of RingPieces. (Written by gen_rgpieces.py.) -/
import Derived.Test.YtiomfinimbogaaaRgTwo
import Derived.Test.YtiomfinimbogaaaCat
namespace Go.Proofs.Ytiomfinimbogaaa
set_option linter.unusedVariables false
set_option linter.unusedSimpArgs false
open Go.RowKit

set_option maxRecDepth 100000 in
set_option maxHeartbeats 16000000 in
theorem walk_RingPieces (x0 : Int) (A : Option Addr) (l : List UInt8) (n c : Nat) (A' : Option Addr) (l' : List UInt8) (n' c' : Nat) (W : World) (wx : (Lit.int .u8 x0).wf = true) (w1 : InB W A l n c) (w2 : InB W A' l' n' c') :
    Calls Try.prog 7 #[.int .u8 x0, .slice A n c, .slice A' n' c'] W fun e w' => e = .returned (.bool true) ∧ Below W.heap.size W w' := by
  obtain ⟨M, rfl, hM⟩ := u8_nat wx
  have hcn := w1.cap
  have hmx := w1.max
  unfold maxLen at hmx
  have hcm : c ≤ 9223372036854775807 := by omega
  have HN := Lib.hid w1.nil_
  have HL := Lib.hid w1.len
  have HL' := Lib.hid w2.len
  have HR := Lib.hid (And.intro w1.rb w2.rb)
  clear wx w1 w2 hmx
  go_enter Try.func7, Try.ntmps7
  go_upto_region 2 with (go_at_call 9; refine (rhead_ok _).mono ?_; rintro e u1 ⟨rfl, hk1⟩)
  have B1 := Lib.hid (Below.ke (Below.refl _ W) hk1 (Nat.le_refl _) (by simp))
  clear hk1
  go_upto_region 3 with (go_at_call 10; refine (new_law M (by omega) W _ B1.out).mono ?_; rintro e u2 ⟨r, g, rfl, h1, h2, _, h3, h4⟩)
  have R2 := Lib.hid (Rw.of h1 h2 (Nat.le_trans B1.out.size h3) (Nat.le_trans B1.out.size h4))
  clear h1 h2 h3 h4 B1
  go_upto_region 4 with (go_at_call 10; refine (new_law M (by omega) W _ R2.out.b).mono ?_; rintro e u3 ⟨r', g', rfl, h1, h2, k3, h3, h4⟩)
  have R3 := Lib.hid (Two.of R2.out k3 h1 h3 h4)
  clear h1 h2 h3 h4 k3 R2
  by_cases hg : 3000 < n
  · have hg2 : (3000 : Int) < (n : Int) := by omega
    go_wp2_with fail
    go_ret
    exact ⟨rfl, R3.out.a.b⟩
  have hg2 : decide ((3000 : Int) < (n : Int)) = false := decide_eq_false (by omega)
  have hn9 : n ≤ 3000 := by omega
  clear hg
  by_cases hg : 300 < n'
  · have hg3 : (300 : Int) < (n' : Int) := by omega
    have hg4 : decide ((300 : Int) < (n' : Int)) = true := decide_eq_true hg3
    go_wp2_with fail
    go_ret
    exact ⟨rfl, R3.out.a.b⟩
  have hg3 : decide ((300 : Int) < (n' : Int)) = false := decide_eq_false (by omega)
  have hn3 : n' ≤ 300 := by omega
  clear hg
  obtain ⟨nm, hnm⟩ : ∃ nm, min n M = nm := ⟨_, rfl⟩
  have HNM := Lib.hid hnm
  clear hnm
  go_upto_region 7 with (go_at_call 15; refine (w_add R3.out.a A n c l HL.out hcn hcm ((HR.out.1.below R3.out.a.b (Nat.le_refl _)).rf (by have := R3.out.a.lr; have := R3.out.a.lg; simp; omega)) M nm rfl HNM.out).mono ?_; rintro e u4 ⟨rfl, k4, h4⟩)
  rw [List.nil_append] at h4
  have R4 := Lib.hid (show Two W u4 r g r' g' M (l.take M) [] from R3.out.first k4 (by simp) h4)
  clear k4 h4 R3 hg2 hg3
  go_wp2_with fail
  go_loopw [11, 12, 13] (fun v11 v12 v13 wr => ∃ (i k ks : Nat), i ≤ n' + 1 ∧ k ≤ n ∧ v11 = .int .i64 (ks : Int) ∧ v12 = .int .i64 (k : Int) ∧ v13 = .int .i64 (i : Int) ∧ Hid (min k M = ks) ∧ Hid (i = n' + 1 → k = n) ∧ Hid (Two W wr r g r' g' M (l.take M) (l.take ks))) (fun _ _ v13 _ => n' + 1 - (intOf v13).toNat)
  case atStart => exact ⟨0, 0, 0, by omega, by omega, rfl, rfl, rfl, Lib.hid (by omega), Lib.hid (fun h => by omega), R4⟩
  case round =>
    obtain ⟨i, k, ks, hi, hk, rfl, rfl, rfl, HKS, HEND, HT⟩ := hrel
    clear R4
    by_cases hi1 : i ≤ n'
    · have hi2 : (i : Int) ≤ (n' : Int) := by omega
      have hksk : ks ≤ k := by have := HKS.out; omega
      have hksM : ks ≤ M := by have := HKS.out; omega
      obtain ⟨t, ht⟩ : ∃ t, t = n - k := ⟨_, rfl⟩
      have htk : k + t = n := by omega
      obtain ⟨y1, y2⟩ := iwrap ((n : Int) - (k : Int)) t (by omega) (by omega)
      have ht9 : t ≤ 3000 := by omega
      clear ht
      have HQL := Lib.hid (show (l.take ks).length = ks by rw [List.length_take, HL.out]; omega)
      by_cases hin : i < n'
      · have hi3 : (i : Int) < (n' : Int) := by omega
        obtain ⟨b', o', rfl, _, cc⟩ := (HR.out.2.below HT.out.a.b (Nat.le_refl _)).byteR i (by rw [HL'.out]; exact hin)
        obtain ⟨u, hu⟩ : ∃ u, (l'[i]'(by rw [HL'.out]; exact hin)).toNat = u := ⟨_, rfl⟩
        rw [hu] at cc
        have hu9 : u ≤ 255 := by rw [← hu]; have := (l'[i]'(by rw [HL'.out]; exact hin)).toNat_lt; omega
        clear hu
        obtain ⟨q, hq⟩ : ∃ q, min u t = q := ⟨_, rfl⟩
        have HMIN := Lib.hid (show min (u : Int) (t : Int) = (q : Int) by omega)
        have hqt : q ≤ t := by omega
        have hkq : k + q ≤ n := by omega
        have HQE := Lib.hid (show i + 1 = n' + 1 → k + q = n by omega)
        obtain ⟨s, hs⟩ : ∃ s, M - ks = s := ⟨_, rfl⟩
        obtain ⟨x, hx⟩ : ∃ x, min q s = x := ⟨_, rfl⟩
        obtain ⟨kx, hkx⟩ : ∃ kx, ks + x = kx := ⟨_, rfl⟩
        obtain ⟨X, hX⟩ : ∃ X, (l.drop k).take q = X := ⟨_, rfl⟩
        have hpc := piece_add l k q M (by rw [HL.out]; exact hkq)
        rw [HKS.out, hs, hX] at hpc
        have HPC := Lib.hid (show l.take ks ++ X.take s = l.take kx ∧ min (k + q) M = kx from ⟨by rw [hpc.1]; congr 1; omega, by omega⟩)
        have HXL := Lib.hid (show X.length = q by rw [← hX, List.length_take, List.length_drop, HL.out]; omega)
        have hxr : ∀ v, Below W.heap.size W v → Rb v W.heap.size (tailA A c k) X := fun v hv => by rw [← hX]; exact ((HR.out.1.below hv (Nat.le_refl _)).tail k (by rw [HL.out]; exact hcn)).front q
        have hsm := fun u => slice_mid A n c k q hkq hcn u
        obtain ⟨TA, hTA⟩ : ∃ TA, tailA A c k = TA := ⟨_, rfl⟩
        rw [hTA] at hxr hsm
        have HXR := Lib.hid hxr
        have HSM := Lib.hid hsm
        have HSX := Lib.hid (show M - (l.take ks).length = s ∧ min q s = x from ⟨by rw [HQL.out]; exact hs, hx⟩)
        have hqc : q ≤ c - k := by omega
        have hcc : c - k ≤ 9223372036854775807 := by omega
        have hkx2 : ks + x ≤ 255 := by omega
        obtain ⟨z1, z2⟩ := iwrap ((ks : Int) + (x : Int)) kx (by omega) (by omega)
        clear hxr hsm hTA hX hs hx hpc hkx
        go_wp2_with (first
          | (refine wpList_min rfl (.tmp 70) (.tmp 71) 3 rfl _ _ _ rfl rfl HMIN.out ?_)
          | ((with_reducible refine wpList_here ?_); refine wpList_two rfl 29 (.tmp 75) (.tmp 76) (.tmp 79) rfl _ _ _ _ rfl rfl rfl (HSM.out _) ?_)
          | (go_at_call 15; refine (w_add HT.out.b TA q (c - k) X HXL.out hqc hcc ((HXR.out _ HT.out.a.b).rf (by have := HT.out.b.lr; have := HT.out.b.lg; simp; omega)) s x HSX.out.1 HSX.out.2).mono ?_; rintro e u5 ⟨rfl, k5, h5⟩; rw [HPC.out.1] at h5; have H5 := Lib.hid (HT.out.second k5 (by simp) h5); clear k5 h5))
        go_roundw
        case rel => exact ⟨i + 1, k + q, kx, by omega, hkq, rfl, by go_num, by go_num, Lib.hid HPC.out.2, HQE, H5⟩
        case measure => simp [intOf]; omega
      · have hi3 : ¬ (i : Int) < (n' : Int) := by omega
        obtain ⟨q, hq⟩ : ∃ q, q = t := ⟨_, rfl⟩
        subst hq
        have hkq : k + q ≤ n := by omega
        have HQE := Lib.hid (show i + 1 = n' + 1 → k + q = n by omega)
        obtain ⟨s, hs⟩ : ∃ s, M - ks = s := ⟨_, rfl⟩
        obtain ⟨x, hx⟩ : ∃ x, min q s = x := ⟨_, rfl⟩
        obtain ⟨kx, hkx⟩ : ∃ kx, ks + x = kx := ⟨_, rfl⟩
        obtain ⟨X, hX⟩ : ∃ X, (l.drop k).take q = X := ⟨_, rfl⟩
        have hpc := piece_add l k q M (by rw [HL.out]; exact hkq)
        rw [HKS.out, hs, hX] at hpc
        have HPC := Lib.hid (show l.take ks ++ X.take s = l.take kx ∧ min (k + q) M = kx from ⟨by rw [hpc.1]; congr 1; omega, by omega⟩)
        have HXL := Lib.hid (show X.length = q by rw [← hX, List.length_take, List.length_drop, HL.out]; omega)
        have hxr : ∀ v, Below W.heap.size W v → Rb v W.heap.size (tailA A c k) X := fun v hv => by rw [← hX]; exact ((HR.out.1.below hv (Nat.le_refl _)).tail k (by rw [HL.out]; exact hcn)).front q
        have hsm := fun u => slice_mid A n c k q hkq hcn u
        obtain ⟨TA, hTA⟩ : ∃ TA, tailA A c k = TA := ⟨_, rfl⟩
        rw [hTA] at hxr hsm
        have HXR := Lib.hid hxr
        have HSM := Lib.hid hsm
        have HSX := Lib.hid (show M - (l.take ks).length = s ∧ min q s = x from ⟨by rw [HQL.out]; exact hs, hx⟩)
        have hqc : q ≤ c - k := by omega
        have hcc : c - k ≤ 9223372036854775807 := by omega
        have hkx2 : ks + x ≤ 255 := by omega
        obtain ⟨z1, z2⟩ := iwrap ((ks : Int) + (x : Int)) kx (by omega) (by omega)
        clear hxr hsm hTA hX hs hx hpc hkx
        go_wp2_with (first
          | ((with_reducible refine wpList_here ?_); refine wpList_two rfl 29 (.tmp 75) (.tmp 76) (.tmp 79) rfl _ _ _ _ rfl rfl rfl (HSM.out _) ?_)
          | (go_at_call 15; refine (w_add HT.out.b TA q (c - k) X HXL.out hqc hcc ((HXR.out _ HT.out.a.b).rf (by have := HT.out.b.lr; have := HT.out.b.lg; simp; omega)) s x HSX.out.1 HSX.out.2).mono ?_; rintro e u5 ⟨rfl, k5, h5⟩; rw [HPC.out.1] at h5; have H5 := Lib.hid (HT.out.second k5 (by simp) h5); clear k5 h5))
        go_roundw
        case rel => exact ⟨i + 1, k + q, kx, by omega, hkq, rfl, by go_num, by go_num, Lib.hid HPC.out.2, HQE, H5⟩
        case measure => simp [intOf]; omega
    · have hi2 : ¬ (i : Int) ≤ (n' : Int) := by omega
      have hie : i = n' + 1 := by omega
      have hkn := HEND.out hie
      have hks := HKS.out
      rw [hkn, HNM.out] at hks
      rw [← hks] at HT ⊢
      have hlt : l.take nm = l.take M := by
        have := HNM.out
        rcases Nat.lt_or_ge n M with h1 | h1
        · rw [List.take_of_length_le (by rw [HL.out]; omega), List.take_of_length_le (by rw [HL.out]; omega)]
        · rw [show nm = M by omega]
      rw [hlt] at HT
      obtain ⟨Q, hQ⟩ : ∃ Q, l.take M = Q := ⟨_, rfl⟩
      have HQL := Lib.hid (show Q.length = nm by rw [← hQ, List.length_take, HL.out]; have := HNM.out; omega)
      rw [hQ] at HT
      have hnm2 : nm ≤ 255 := by have := HNM.out; omega
      clear hlt hQ hks hkn hie hi hi1 HEND HKS
      go_wp2_with fail
      go_loopw [15, 16] (fun v15 v16 wr => ∃ (i : Nat) (out q : List UInt8), i ≤ n' ∧ v15 = .string (bs out) ∧ v16 = .int .i64 (i : Int) ∧ Hid (out ++ q = Q) ∧ Hid (Two W wr r g r' g' M Q q)) (fun _ v16 _ => n' - (intOf v16).toNat)
      case atStart => exact ⟨0, [], Q, by omega, rfl, rfl, Lib.hid rfl, HT⟩
      case round =>
        obtain ⟨i, out, q, hi, rfl, rfl, HOQ, HW⟩ := hrel
        clear HT
        obtain ⟨kq, hkq⟩ : ∃ kq, q.length = kq := ⟨_, rfl⟩
        have hol : out.length + kq = nm := by rw [← hkq, ← List.length_append, HOQ.out, HQL.out]
        have HKQ := Lib.hid hkq
        have HOL := Lib.hid hol
        clear hkq
        by_cases hi1 : i < n'
        · have hi3 : (i : Int) < (n' : Int) := by omega
          obtain ⟨b', o', rfl, _, cc⟩ := (HR.out.2.below HW.out.a.b (Nat.le_refl _)).byteR i (by rw [HL'.out]; exact hi1)
          obtain ⟨u, hu⟩ : ∃ u, (l'[i]'(by rw [HL'.out]; exact hi1)).toNat = u := ⟨_, rfl⟩
          rw [hu] at cc
          have hu9 : u ≤ 255 := by rw [← hu]; have := (l'[i]'(by rw [HL'.out]; exact hi1)).toNat_lt; omega
          obtain ⟨t, ht⟩ : ∃ t, takeM (u : Int) kq = t := ⟨_, rfl⟩
          have htk : t ≤ kq := ht ▸ takeM_le _ _
          obtain ⟨T, hT⟩ : ∃ T, q.take t = T := ⟨_, rfl⟩
          obtain ⟨D, hD⟩ : ∃ D, q.drop t = D := ⟨_, rfl⟩
          have HTT := Lib.hid (show takeM (u : Int) kq = t ∧ T.length = t ∧ T ++ D = q ∧ out.length + T.length ≤ 9223372036854775807 ∧ q.take t = T ∧ q.drop t = D from
            ⟨ht, by rw [← hT, List.length_take, HKQ.out]; omega, by rw [← hT, ← hD, List.take_append_drop], by rw [← hT, List.length_take, HKQ.out]; omega, hT, hD⟩)
          clear hu ht hT hD hol
          go_wp2_with (first
            | (go_at_call 13; refine (w_take HW.out.b (u : Int) kq t HKQ.out HTT.out.1).mono ?_; rintro e u6 ⟨rfl, hb6, k6, h6⟩; rw [HTT.out.2.2.2.2.1] at hb6; rw [HTT.out.2.2.2.2.2] at h6; have HB6 := Lib.hid (Rb.bk hb6); have H6 := Lib.hid (HW.out.second k6 (by simp) h6); clear hb6 k6 h6)
            | (refine wpList_conv (by kernel_rfl) 29 5 9 (.tmp 99) rfl _ t t T rfl HTT.out.2.1 HB6.out Try.underlying29 Try.underlying5 Try.underlying9 ?_)
            | (refine wpList_cat (by kernel_rfl) (.tmp 92) (.tmp 100) 9 9 rfl out T _ rfl rfl HTT.out.2.2.2.1 rfl ?_))
          go_roundw
          case rel => exact ⟨i + 1, out ++ T, D, by omega, rfl, by go_num, Lib.hid (by rw [List.append_assoc, HTT.out.2.2.1]; exact HOQ.out), H6⟩
          case measure => simp [intOf]; omega
        · have hi3 : ¬ (i : Int) < (n' : Int) := by omega
          have HTK := Lib.hid (show takeM 3000 kq = kq ∧ takeM 3000 nm = nm ∧ q.take kq = q ∧ Q.take nm = Q ∧ out.length + q.length ≤ 9223372036854775807 from ⟨by unfold takeM; omega, by unfold takeM; omega, List.take_of_length_le (Nat.le_of_eq HKQ.out), List.take_of_length_le (Nat.le_of_eq HQL.out), by rw [HKQ.out]; omega⟩)
          have hxx : ((bs Q).toList == (bs Q).toList) = true := beq_self_eq_true _
          clear hol
          go_upto_region 23 with (first
            | (go_at_call 13; refine (w_take HW.out.b 3000 kq kq HKQ.out HTK.out.1).mono ?_; rintro e u6 ⟨rfl, hb6, k6, h6⟩; rw [HTK.out.2.2.1] at hb6; have HB6 := Lib.hid (Rb.bk hb6); have H6 := Lib.hid (HW.out.second k6 (by simp) h6); clear hb6 k6 h6)
            | (refine wpList_conv (by kernel_rfl) 29 5 9 (.tmp 104) rfl _ kq kq q rfl HKQ.out HB6.out Try.underlying29 Try.underlying5 Try.underlying9 ?_)
            | (refine wpList_cat (by kernel_rfl) (.tmp 102) (.tmp 105) 9 9 rfl out q Q rfl rfl HTK.out.2.2.2.2 HOQ.out ?_))
          go_wp2_with (first
            | (go_at_call 13; refine (w_take H6.out.a 3000 nm nm HQL.out HTK.out.2.1).mono ?_; rintro e u7 ⟨rfl, hb7, k7, h7⟩; rw [HTK.out.2.2.2.1] at hb7; have HB7 := Lib.hid (Rb.bk hb7); have H7 := Lib.hid h7.b; clear hb7 k7 h7)
            | (refine wpList_conv (by kernel_rfl) 29 5 9 (.tmp 115) rfl _ nm nm Q rfl HQL.out HB7.out Try.underlying29 Try.underlying5 Try.underlying9 ?_))
          go_ret
          exact ⟨rfl, H7.out⟩
end Go.Proofs.Ytiomfinimbogaaa
