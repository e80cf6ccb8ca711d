/- The walk of RingOrder. -/
import Derived.Test.YtiomfinimbogaaaRgLaw
import Derived.Test.YtiomfinimbogaaaCat
namespace Go.Proofs.Ytiomfinimbogaaa
set_option linter.unusedVariables false
set_option linter.unusedSimpArgs false
open Go.RowKit

theorem take_same (l : List UInt8) (n s x : Nat) (hn : l.length = n) (hx : min n s = x) : l.take s = l.take x := by
  rcases Nat.lt_or_ge n s with h1 | h1
  · rw [List.take_of_length_le (by omega), List.take_of_length_le (by omega)]
  · rw [show x = s by omega]

set_option maxRecDepth 100000 in
set_option maxHeartbeats 8000000 in
theorem walk_RingOrder (x0 : Int) (A : Option Addr) (L : List OpM) (n c : Nat) (W : World) (wx : (Lit.int .u8 x0).wf = true) (w1 : InO W A L n c) :
    Calls Try.prog 4 #[.int .u8 x0, .slice A n c] W fun e w' => e = .returned (.bool true) ∧ Below W.heap.size W w' := by
  obtain ⟨M, rfl, hM⟩ := u8_nat wx
  have hcn := w1.cap
  have hmx := w1.max
  unfold maxLen at hmx
  have hnx : n ≤ 9223372036854775807 := by omega
  have HO := Lib.hid w1
  clear wx w1
  go_enter Try.func4, Try.ntmps4
  go_upto_region 2 with (go_at_call 9; refine (rhead_ok _).mono ?_; rintro e u1 ⟨rfl, hk1⟩)
  have B1 := Lib.hid (Below.ke (Below.refl _ W) hk1 (Nat.le_refl _) (by simp))
  clear hk1
  go_upto_region 3 with (go_at_call 10; refine (new_law M (by omega) W _ B1.out).mono ?_; rintro e u2 ⟨r, g, rfl, h1, h2, _, h3, h4⟩)
  have R2 := Lib.hid (Rw.of h1 h2 (Nat.le_trans B1.out.size h3) (Nat.le_trans B1.out.size h4))
  clear h1 h2 h3 h4 B1
  have HG := Lib.hid (ogreat_ok A L n c W.heap.size u2 (HO.out.ro.below R2.out.b (Nat.le_refl _)) HO.out.len (by omega))
  go_wp2_with (go_at_call 12; refine HG.out.mono ?_; rintro e uu ⟨⟨v, rfl, hv⟩, rfl⟩; cases v)
  all_goals try (go_ret; exact ⟨rfl, R2.out.b⟩)
  have hn4 : n ≤ 400 := hv trivial
  clear HG hv
  go_loopw [7, 8, 9] (fun v7 v8 v9 wr => ∃ (i : Nat) (q inn out : List UInt8), i ≤ n ∧ v7 = .string (bs inn) ∧ v8 = .string (bs out) ∧ v9 = .int .i64 (i : Int) ∧ Hid (out ++ q = inn) ∧ Hid (inn.length ≤ 255 * i) ∧ Hid (Rw W wr r g M q)) (fun _ _ v9 _ => n - (intOf v9).toNat)
  case atStart => exact ⟨0, [], [], [], by omega, rfl, rfl, rfl, Lib.hid rfl, Lib.hid (Nat.le_refl _), R2⟩
  case round =>
    obtain ⟨i, q, inn, out, hi, rfl, rfl, rfl, HQ, HN, HW⟩ := hrel
    clear R2
    have hfit := HW.out.rg.fit
    obtain ⟨k, hk⟩ : ∃ k, q.length = k := ⟨_, rfl⟩
    rw [hk] at hfit
    have HK := Lib.hid hk
    clear hk
    by_cases hi1 : i < n
    · have hi2 : (i : Int) < (n : Int) := by omega
      obtain ⟨b, o, m, rfl, _, hop⟩ := HO.out.at_ i hi1
      have HOP := Lib.hid hop
      clear hop hcn
      obtain ⟨s, hs⟩ : ∃ s, M - k = s := ⟨_, rfl⟩
      obtain ⟨n1, hn1⟩ : ∃ n1, m.l.length = n1 := ⟨_, rfl⟩
      have HM := Lib.hid (show M - q.length = s ∧ m.l.length = n1 ∧ M - k = s from ⟨by rw [HK.out]; exact hs, hn1, hs⟩)
      clear hs hn1
      obtain ⟨c0, c1, c2⟩ := (HOP.out _ HW.out.b).1
      rw [HM.out.2.1] at c1
      by_cases hw : m.what = 2
      · rw [hw] at c0
        obtain ⟨x, hx⟩ : ∃ x, m.x = x := ⟨_, rfl⟩
        obtain ⟨t, ht⟩ : ∃ t, takeM x k = t := ⟨_, rfl⟩
        have htk : t ≤ k := ht ▸ takeM_le _ _
        rw [hx] at c2
        obtain ⟨T, hT⟩ : ∃ T, q.take t = T := ⟨_, rfl⟩
        obtain ⟨D, hD⟩ : ∃ D, q.drop t = D := ⟨_, rfl⟩
        have HT := Lib.hid (show takeM x k = t ∧ T.length = t ∧ T ++ D = q ∧ out.length + T.length ≤ 9223372036854775807 ∧ q.take t = T ∧ q.drop t = D from
          ⟨ht, by rw [← hT, List.length_take, HK.out]; omega, by rw [← hT, ← hD, List.take_append_drop], by
            have h1 := HN.out
            rw [← HQ.out, List.length_append, HK.out] at h1
            have h2 : T.length ≤ k := by rw [← hT, List.length_take, HK.out]; omega
            omega, hT, hD⟩)
        clear ht hT hD hw
        go_wp2_with (first
          | (go_at_call 13; refine (w_take HW.out x k t HK.out HT.out.1).mono ?_; rintro e u4 ⟨rfl, hb4, _, h4⟩; rw [HT.out.2.2.2.2.1] at hb4; rw [HT.out.2.2.2.2.2] at h4; have HB4 := Lib.hid (Rb.bk hb4); have H4 := Lib.hid h4; clear hb4 h4)
          | (refine wpList_conv (by kernel_rfl) 29 5 9 (.tmp 45) rfl _ t t T rfl HT.out.2.1 HB4.out Try.underlying29 Try.underlying5 Try.underlying9 ?_)
          | (refine wpList_cat (by kernel_rfl) (.tmp 38) (.tmp 46) 9 9 rfl out T _ rfl rfl HT.out.2.2.2.1 rfl ?_))
        go_roundw
        case rel => exact ⟨i + 1, D, inn, out ++ T, by omega, rfl, rfl, by go_num, Lib.hid (by rw [List.append_assoc, HT.out.2.2.1]; exact HQ.out), Lib.hid (by have := HN.out; omega), H4⟩
        case measure => simp [intOf]; omega
      · have hw2 : (m.what == 2) = false := by rw [beq_eq_false_iff_ne]; exact hw
        obtain ⟨x, hx⟩ : ∃ x, min n1 s = x := ⟨_, rfl⟩
        have hx0 : ¬ ((x : Int) < 0) := by omega
        have hxn : ¬ ((n1 : Int) < (x : Int)) := by omega
        obtain ⟨X, hX⟩ : ∃ X, m.l.take x = X := ⟨_, rfl⟩
        have hxl : X.length = x := by rw [← hX, List.length_take, HM.out.2.1]; omega
        have hcap := (HOP.out _ HW.out.b).2.cap
        rw [HM.out.2.1] at hcap
        have HT := Lib.hid (show min n1 s = x ∧ X.length = x ∧ m.l.take s = X ∧ inn.length + X.length ≤ 9223372036854775807 ∧ x ≤ 255 from
          ⟨hx, hxl, by rw [take_same m.l n1 s x HM.out.2.1 hx, hX], by have := HN.out; have := HM.out.2.2; omega, by have := HM.out.2.2; omega⟩)
        have HSL := Lib.hid (fun v => slice_to m.A n1 m.c x (by omega) hcap v)
        have HRX := Lib.hid (show ∀ v, Below W.heap.size W v → Rb v W.heap.size m.A X from fun v hv => hX ▸ (HOP.out v hv).2.rb.front x)
        clear hx hw hX hxl hcap
        go_upto_region 13 with (go_at_call 15; refine (w_add_op HW.out m (HOP.out _ HW.out.b).2 n1 s x HM.out.2.1 HM.out.1 HT.out.1).mono ?_; rintro e u4 ⟨rfl, _, h4⟩)
        rw [HT.out.2.2.1] at h4
        have H4 := Lib.hid h4
        obtain ⟨_, c1, _⟩ := (HOP.out _ h4.b).1
        rw [HM.out.2.1] at c1
        clear h4
        go_wp2_with (first
          | (refine wpList_to rfl 29 (.tmp 72) (.tmp 73) rfl _ _ _ rfl rfl (HSL.out _) ?_)
          | (refine wpList_conv (by kernel_rfl) 29 5 9 (.tmp 74) rfl m.A x m.c X rfl HT.out.2.1 (HRX.out _ H4.out.b) Try.underlying29 Try.underlying5 Try.underlying9 ?_)
          | (refine wpList_cat (by kernel_rfl) (.tmp 67) (.tmp 75) 9 9 rfl inn X _ rfl rfl HT.out.2.2.2.1 rfl ?_))
        go_roundw
        case rel => exact ⟨i + 1, q ++ X, inn ++ X, out, by omega, rfl, rfl, by go_num, Lib.hid (by rw [← List.append_assoc, HQ.out]), Lib.hid (by rw [List.length_append, HT.out.2.1]; have := HN.out; have := HT.out.2.2.2.2; omega), H4⟩
        case measure => simp [intOf]; omega
    · have hi2 : ¬ (i : Int) < (n : Int) := by omega
      have hol : out.length + q.length ≤ 9223372036854775807 := by
        have h1 := HN.out
        rw [← HQ.out, List.length_append] at h1
        omega
      have HOL := Lib.hid hol
      clear hol
      have hxx : ((bs inn).toList == (bs inn).toList) = true := beq_self_eq_true _
      go_wp2_with (first
          | (go_at_call 19; refine (w_look HW.out k HK.out).mono ?_; rintro e u4 ⟨rfl, hb4, _, h4⟩; have HB4 := Lib.hid (Rb.bk hb4); have H4 := Lib.hid h4; clear hb4 h4)
          | (refine wpList_conv (by kernel_rfl) 29 5 9 (.tmp 81) rfl _ k k q rfl HK.out HB4.out Try.underlying29 Try.underlying5 Try.underlying9 ?_)
          | (refine wpList_cat (by kernel_rfl) (.tmp 79) (.tmp 82) 9 9 rfl out q inn rfl rfl HOL.out HQ.out ?_))
      go_ret
      exact ⟨rfl, H4.out.b⟩
end Go.Proofs.Ytiomfinimbogaaa
