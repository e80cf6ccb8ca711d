/- The walk of RingBound. -/
import Derived.Test.YtiomfinimbogaaaRgLaw
namespace Go.Proofs.Ytiomfinimbogaaa
set_option linter.unusedVariables false
set_option linter.unusedSimpArgs false
open Go.RowKit

set_option maxRecDepth 100000 in
set_option maxHeartbeats 8000000 in
theorem walk_RingBound (x0 : Int) (A : Option Addr) (L : List OpM) (n c : Nat) (W : World) (wx : (Lit.int .u8 x0).wf = true) (w1 : InO W A L n c) :
    Calls Try.prog 5 #[.int .u8 x0, .slice A n c] W fun e w' => e = .returned (.bool true) ∧ Below W.heap.size W w' := by
  obtain ⟨M, rfl, hM⟩ := u8_nat wx
  have hcn := w1.cap
  have hmx := w1.max
  unfold maxLen at hmx
  have hnx : n ≤ 9223372036854775807 := by omega
  have HO := Lib.hid w1
  clear wx w1
  go_enter Try.func5, Try.ntmps5
  go_upto_region 2 with (go_at_call 9; refine (rhead_ok _).mono ?_; rintro e u1 ⟨rfl, hk1⟩)
  have B1 := Lib.hid (Below.ke (Below.refl _ W) hk1 (Nat.le_refl _) (by simp))
  clear hk1
  go_upto_region 3 with (go_at_call 10; refine (new_law M (by omega) W _ B1.out).mono ?_; rintro e u2 ⟨r, g, rfl, h1, h2, _, h3, h4⟩)
  have R2 := Lib.hid (Rw.of h1 h2 (Nat.le_trans B1.out.size h3) (Nat.le_trans B1.out.size h4))
  clear h1 h2 h3 h4 B1
  have HG := Lib.hid (ogreat_ok A L n c W.heap.size u2 (HO.out.ro.below R2.out.b (Nat.le_refl _)) HO.out.len (by omega))
  go_wp2_with (go_at_call 12; refine HG.out.mono ?_; rintro e uu ⟨⟨v, rfl, hv⟩, rfl⟩; cases v)
  all_goals try (go_ret; exact ⟨rfl, R2.out.b⟩)
  clear HG hv
  go_loopw [7] (fun v7 wr => ∃ (i : Nat) (q : List UInt8), i ≤ n ∧ v7 = .int .i64 (i : Int) ∧ Hid (Rw W wr r g M q)) (fun v7 _ => n - (intOf v7).toNat)
  case atStart => exact ⟨0, [], by omega, rfl, R2⟩
  case round =>
    obtain ⟨i, q, hi, rfl, HW⟩ := hrel
    clear R2
    by_cases hi1 : i < n
    · have hi2 : (i : Int) < (n : Int) := by omega
      obtain ⟨b, o, m, rfl, _, hop⟩ := HO.out.at_ i hi1
      have HOP := Lib.hid hop
      clear hop hcn
      have hfit := HW.out.rg.fit
      obtain ⟨k, hk⟩ : ∃ k, q.length = k := ⟨_, rfl⟩
      obtain ⟨s, hs⟩ : ∃ s, M - k = s := ⟨_, rfl⟩
      obtain ⟨n1, hn1⟩ : ∃ n1, m.l.length = n1 := ⟨_, rfl⟩
      rw [hk] at hfit
      obtain ⟨y1, y2⟩ := iwrap ((k : Int) + (s : Int)) M (by omega) (by omega)
      have HK := Lib.hid (show q.length = k ∧ M - q.length = s ∧ m.l.length = n1 ∧ M - k = s from ⟨hk, by rw [hk]; exact hs, hn1, hs⟩)
      clear hk hs hn1
      go_upto_region 12 with (first
        | (go_at_call 17; refine (w_many HW.out k HK.out.1).mono ?_; rintro e uz ⟨rfl, rfl⟩)
        | (go_at_call 18; refine (w_room HW.out s HK.out.2.1).mono ?_; rintro e u3 ⟨rfl, _, h1⟩))
      clear y1 y2
      have H3 := Lib.hid h1
      obtain ⟨c0, c1, c2⟩ := (HOP.out _ h1.b).1
      rw [HK.out.2.2.1] at c1
      clear h1 HW
      by_cases hw : m.what = 2
      · rw [hw] at c0
        obtain ⟨t, ht⟩ : ∃ t, takeM m.x k = t := ⟨_, rfl⟩
        obtain ⟨X, hX⟩ : ∃ X, max m.x 0 = X := ⟨_, rfl⟩
        have htk : t ≤ k := ht ▸ takeM_le _ _
        obtain ⟨d, hd⟩ : ∃ d, k - t = d := ⟨_, rfl⟩
        obtain ⟨z1, z2⟩ := iwrap ((k : Int) - (t : Int)) d (by omega) (by omega)
        have HT := Lib.hid (show takeM m.x k = t ∧ max m.x 0 = X ∧ min X (k : Int) = (t : Int) ∧ (q.drop t).length = d from ⟨ht, hX, take_min _ _ _ _ hX ht, by rw [List.length_drop, HK.out.1]; exact hd⟩)
        obtain ⟨x, hx⟩ : ∃ x, m.x = x := ⟨_, rfl⟩
        rw [hx] at c2 HT
        clear hd ht hX
        go_upto_region 14 with (go_at_call 13; refine (w_take H3.out x k t HK.out.1 HT.out.1).mono ?_; rintro e u4 ⟨rfl, _, _, h4⟩)
        have H4 := Lib.hid h4
        obtain ⟨_, _, c2⟩ := (HOP.out _ h4.b).1
        rw [hx] at c2
        clear h4 H3
        go_wp2_with (first
          | (refine wpList_max rfl (.tmp 62) (.const (.int .i64 0)) 3 rfl _ _ _ rfl rfl HT.out.2.1 ?_)
          | (refine wpList_min rfl (.tmp 63) (.tmp 64) 3 rfl _ _ _ rfl rfl HT.out.2.2.1 ?_)
          | (go_at_call 17; refine (w_many H4.out d HT.out.2.2.2).mono ?_; rintro e uz ⟨rfl, rfl⟩))
        go_roundw
        case rel => exact ⟨i + 1, q.drop t, by omega, by go_num, H4⟩
        case measure => simp [intOf]; omega
      · have hw2 : (m.what == 2) = false := by rw [beq_eq_false_iff_ne]; exact hw
        obtain ⟨x, hx⟩ : ∃ x, min n1 s = x := ⟨_, rfl⟩
        obtain ⟨d, hd⟩ : ∃ d, k + x = d := ⟨_, rfl⟩
        have hxs : x ≤ s := by omega
        have hsM : s ≤ M := by have := HK.out.2.2.2; omega
        obtain ⟨z1, z2⟩ := iwrap ((k : Int) + (x : Int)) d (by omega) (by omega)
        have HT := Lib.hid (show min n1 s = x ∧ min (n1 : Int) (s : Int) = (x : Int) ∧ (q ++ m.l.take s).length = d from ⟨hx, by omega, by rw [List.length_append, List.length_take, HK.out.1, HK.out.2.2.1]; omega⟩)
        clear hd hx hw
        go_upto_region 17 with (go_at_call 15; refine (w_add_op H3.out m (HOP.out _ H3.out.b).2 n1 s x HK.out.2.2.1 HK.out.2.1 HT.out.1).mono ?_; rintro e u4 ⟨rfl, _, h4⟩)
        have H4 := Lib.hid h4
        obtain ⟨_, c1, _⟩ := (HOP.out _ h4.b).1
        rw [HK.out.2.2.1] at c1
        clear h4 H3
        go_wp2_with (first
          | (refine wpList_min rfl (.tmp 89) (.tmp 90) 3 rfl _ _ _ rfl rfl HT.out.2.1 ?_)
          | (go_at_call 17; refine (w_many H4.out d HT.out.2.2).mono ?_; rintro e uz ⟨rfl, rfl⟩))
        go_roundw
        case rel => exact ⟨i + 1, q ++ m.l.take s, by omega, by go_num, H4⟩
        case measure => simp [intOf]; omega
    · have hi2 : ¬ (i : Int) < (n : Int) := by omega
      have hfit : (q.length : Int) ≤ (M : Int) := by have := HW.out.rg.fit; omega
      obtain ⟨k, hk⟩ : ∃ k, q.length = k := ⟨_, rfl⟩
      rw [hk] at hfit
      have HK := Lib.hid hk
      clear hk
      go_wp2_with (go_at_call 17; refine (w_many HW.out k HK.out).mono ?_; rintro e uz ⟨rfl, rfl⟩)
      go_ret
      exact ⟨rfl, HW.out.b⟩
end Go.Proofs.Ytiomfinimbogaaa
