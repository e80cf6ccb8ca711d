/- The walk of RingLooks. (Written by gen_rglooks.py.) -/
import Derived.Test.YtiomfinimbogaaaRgTwo
import Derived.Test.YtiomfinimbogaaaCat
namespace Go.Proofs.Ytiomfinimbogaaa
set_option linter.unusedVariables false
set_option linter.unusedSimpArgs false
open Go.RowKit

set_option maxRecDepth 100000 in
set_option maxHeartbeats 16000000 in
theorem walk_RingLooks (x0 : Int) (A : Option Addr) (L : List OpM) (n c : Nat) (W : World) (wx : (Lit.int .u8 x0).wf = true) (w1 : InO W A L n c) :
    Calls Try.prog 8 #[.int .u8 x0, .slice A n c] W fun e w' => e = .returned (.bool true) ∧ Below W.heap.size W w' := by
  obtain ⟨M, rfl, hM⟩ := u8_nat wx
  have hcn := w1.cap
  have hmx := w1.max
  unfold maxLen at hmx
  have hnx : n ≤ 9223372036854775807 := by omega
  have HO := Lib.hid w1
  clear wx w1
  go_enter Try.func8, Try.ntmps8
  go_upto_region 2 with (go_at_call 9; refine (rhead_ok _).mono ?_; rintro e u1 ⟨rfl, hk1⟩)
  have B1 := Lib.hid (Below.ke (Below.refl _ W) hk1 (Nat.le_refl _) (by simp))
  clear hk1
  go_upto_region 3 with (go_at_call 10; refine (new_law M (by omega) W _ B1.out).mono ?_; rintro e u2 ⟨r, g, rfl, h1, h2, _, h3, h4⟩)
  have R2 := Lib.hid (Rw.of h1 h2 (Nat.le_trans B1.out.size h3) (Nat.le_trans B1.out.size h4))
  clear h1 h2 h3 h4 B1
  go_upto_region 4 with (go_at_call 10; refine (new_law M (by omega) W _ R2.out.b).mono ?_; rintro e u3 ⟨r', g', rfl, h1, h2, k3, h3, h4⟩)
  have R3 := Lib.hid (Two.of R2.out k3 h1 h3 h4)
  clear h1 h2 h3 h4 k3 R2
  have HG := Lib.hid (ogreat_ok A L n c W.heap.size u3 (HO.out.ro.below R3.out.a.b (Nat.le_refl _)) HO.out.len (by omega))
  go_wp2_with (go_at_call 12; refine HG.out.mono ?_; rintro e uu ⟨⟨v, rfl, hv⟩, rfl⟩; cases v)
  all_goals try (go_ret; exact ⟨rfl, R3.out.a.b⟩)
  clear HG hv
  go_loopw [8] (fun v8 wr => ∃ (i : Nat) (q : List UInt8), i ≤ n ∧ v8 = .int .i64 (i : Int) ∧ Hid (Two W wr r g r' g' M q q)) (fun v8 _ => n - (intOf v8).toNat)
  case atStart => exact ⟨0, [], by omega, rfl, R3⟩
  case round =>
    obtain ⟨i, q, hi, rfl, HW⟩ := hrel
    clear R3
    have hfit := HW.out.a.rg.fit
    obtain ⟨k, hk⟩ : ∃ k, q.length = k := ⟨_, rfl⟩
    rw [hk] at hfit
    have HK := Lib.hid hk
    clear hk
    by_cases hi1 : i < n
    · have hi2 : (i : Int) < (n : Int) := by omega
      obtain ⟨b, o, m, rfl, _, hop⟩ := HO.out.at_ i hi1
      have HOP := Lib.hid hop
      clear hop hcn
      obtain ⟨s, hs⟩ : ∃ s, M - k = s := ⟨_, rfl⟩
      obtain ⟨n1, hn1⟩ : ∃ n1, m.l.length = n1 := ⟨_, rfl⟩
      have HM := Lib.hid (show M - q.length = s ∧ m.l.length = n1 ∧ M - k = s from ⟨by rw [HK.out]; exact hs, hn1, hs⟩)
      clear hs hn1
      have hsz : (bs q).size = k := by rw [bs_size]; exact HK.out
      have hxx : ((bs q).toList == (bs q).toList) = true := beq_self_eq_true _
      go_upto_region 10 with (first
        | (go_at_call 19; refine (w_look HW.out.a k HK.out).mono ?_; rintro e u4 ⟨rfl, hb4, k4, _⟩; have HB4 := Lib.hid (Rb.bk hb4); have H4 := Lib.hid (HW.out.ke k4); clear hb4 k4)
        | (refine wpList_conv (by kernel_rfl) 29 5 9 (.tmp 43) rfl _ k k q rfl HK.out HB4.out Try.underlying29 Try.underlying5 Try.underlying9 ?_))
      clear HB4
      go_upto_region 12 with (first
        | (go_at_call 19; refine (w_look H4.out.a k HK.out).mono ?_; rintro e u5 ⟨rfl, hb5, k5, _⟩; have HB5 := Lib.hid (Rb.bk hb5); have H5 := Lib.hid (H4.out.ke k5); clear hb5 k5)
        | (refine wpList_conv (by kernel_rfl) 29 5 9 (.tmp 47) rfl _ k k q rfl HK.out HB5.out Try.underlying29 Try.underlying5 Try.underlying9 ?_)
        | (go_at_call 17; refine (w_many H5.out.a k HK.out).mono ?_; rintro e uz ⟨rfl, rfl⟩))
      clear HB5 H4 hsz hxx
      obtain ⟨c0, c1, c2⟩ := (HOP.out _ H5.out.a.b).1
      rw [HM.out.2.1] at c1
      by_cases hw : m.what = 2
      · rw [hw] at c0
        obtain ⟨x, hx⟩ : ∃ x, m.x = x := ⟨_, rfl⟩
        obtain ⟨t, ht⟩ : ∃ t, takeM x k = t := ⟨_, rfl⟩
        have htk : t ≤ k := ht ▸ takeM_le _ _
        obtain ⟨T, hT⟩ : ∃ T, q.take t = T := ⟨_, rfl⟩
        obtain ⟨D, hD⟩ : ∃ D, q.drop t = D := ⟨_, rfl⟩
        have HT := Lib.hid (show takeM x k = t ∧ T.length = t ∧ q.take t = T ∧ q.drop t = D ∧ m.x = x from ⟨ht, by rw [← hT, List.length_take, HK.out]; omega, hT, hD, hx⟩)
        have hxx : ((bs T).toList == (bs T).toList) = true := beq_self_eq_true _
        clear ht hT hD hw c1 c2 hx htk
        go_upto_region 13 with (fail)
        clear c0
        try simp only [List.cons_append, List.nil_append]
        refine wp_region_held_drew (S := fun v => Below W.heap.size W v) (by kernel_rfl) (H5.out.a.b.drew) (fun hHeld => ?_)
        have H6 := Lib.hid (H5.out.ke (Ke.refl _ _).drew)
        clear H5
        generalize uz.drew = w6 at H6 hHeld ⊢
        refine take_at (some 63) (i := 0) (v := ?_) rfl rfl (by kernel_rfl) (by kernel_rfl) (by kernel_rfl) (fun _ _ _ h => h) (Or.inl ⟨by kernel_rfl, ?_⟩) hHeld ?_
        rotate_left
        · intro wz hSw; skip; go_simp; try (with_reducible rfl)
        try simp only [Act.put, List.setIfInBounds_toArray, List.set_cons_zero, List.set_cons_succ, List.getElem_toArray, List.getElem_cons_succ, List.getElem_cons_zero]
        refine take_at (some 64) (i := 1) (v := ?_) rfl rfl (by kernel_rfl) (by kernel_rfl) (by kernel_rfl) (fun _ _ _ h => h) (Or.inl ⟨by kernel_rfl, ?_⟩) hHeld ?_
        rotate_left
        · intro wz hSw; skip; go_simp; try (with_reducible rfl)
        try simp only [Act.put, List.setIfInBounds_toArray, List.set_cons_zero, List.set_cons_succ, List.getElem_toArray, List.getElem_cons_succ, List.getElem_cons_zero]
        refine take_at (some 65) (i := 2) (v := ?_) rfl rfl (by kernel_rfl) (by kernel_rfl) (by kernel_rfl) (fun _ _ _ h => h) (Or.inl ⟨by kernel_rfl, ?_⟩) hHeld ?_
        rotate_left
        · intro wz hSw; skip; go_simp; try (with_reducible rfl)
        try simp only [Act.put, List.setIfInBounds_toArray, List.set_cons_zero, List.set_cons_succ, List.getElem_toArray, List.getElem_cons_succ, List.getElem_cons_zero]
        refine take_at (some 66) (i := 3) (v := ?_) rfl rfl (by kernel_rfl) (by kernel_rfl) (by kernel_rfl) (fun _ _ _ h => h) (Or.inl ⟨by kernel_rfl, ?_⟩) hHeld ?_
        rotate_left
        · intro wz hSw; skip; go_simp; try (with_reducible rfl)
        try simp only [Act.put, List.setIfInBounds_toArray, List.set_cons_zero, List.set_cons_succ, List.getElem_toArray, List.getElem_cons_succ, List.getElem_cons_zero]
        refine take_at (some 67) (i := 4) (v := ?_) rfl rfl (by kernel_rfl) (by kernel_rfl) (by kernel_rfl) (fun _ _ _ h => h) (Or.inl ⟨by kernel_rfl, ?_⟩) hHeld ?_
        rotate_left
        · intro wz hSw; skip; go_simp; try (with_reducible rfl)
        try simp only [Act.put, List.setIfInBounds_toArray, List.set_cons_zero, List.set_cons_succ, List.getElem_toArray, List.getElem_cons_succ, List.getElem_cons_zero]
        refine take_at (some 68) (i := 5) (v := ?_) rfl rfl (by kernel_rfl) (by kernel_rfl) (by kernel_rfl) (fun _ _ _ h => h) (Or.inl ⟨by kernel_rfl, ?_⟩) hHeld ?_
        rotate_left
        · intro wz hSw; obtain ⟨_, _, c2⟩ := (HOP.out _ hSw).1; rw [HT.out.2.2.2.2] at c2; go_simp; try (with_reducible rfl)
        try simp only [Act.put, List.setIfInBounds_toArray, List.set_cons_zero, List.set_cons_succ, List.getElem_toArray, List.getElem_cons_succ, List.getElem_cons_zero]
        refine take_at (some 71) (i := 8) (v := ?_) rfl rfl (by kernel_rfl) (by kernel_rfl) (by kernel_rfl) (fun _ _ _ h => h) (Or.inl ⟨by kernel_rfl, ?_⟩) hHeld ?_
        rotate_left
        · intro wz hSw; skip; go_simp; try (with_reducible rfl)
        try simp only [Act.put, List.setIfInBounds_toArray, List.set_cons_zero, List.set_cons_succ, List.getElem_toArray, List.getElem_cons_succ, List.getElem_cons_zero]
        refine take_at (some 72) (i := 9) (v := ?_) rfl rfl (by kernel_rfl) (by kernel_rfl) (by kernel_rfl) (fun _ _ _ h => h) (Or.inl ⟨by kernel_rfl, ?_⟩) hHeld ?_
        rotate_left
        · intro wz hSw; skip; go_simp; try (with_reducible rfl)
        try simp only [Act.put, List.setIfInBounds_toArray, List.set_cons_zero, List.set_cons_succ, List.getElem_toArray, List.getElem_cons_succ, List.getElem_cons_zero]
        refine take_at (some 73) (i := 10) (v := ?_) rfl rfl (by kernel_rfl) (by kernel_rfl) (by kernel_rfl) (fun _ _ _ h => h) (Or.inl ⟨by kernel_rfl, ?_⟩) hHeld ?_
        rotate_left
        · intro wz hSw; skip; go_simp; try (with_reducible rfl)
        try simp only [Act.put, List.setIfInBounds_toArray, List.set_cons_zero, List.set_cons_succ, List.getElem_toArray, List.getElem_cons_succ, List.getElem_cons_zero]
        refine take_at (some 74) (i := 11) (v := ?_) rfl rfl (by kernel_rfl) (by kernel_rfl) (by kernel_rfl) (fun _ _ _ h => h) (Or.inl ⟨by kernel_rfl, ?_⟩) hHeld ?_
        rotate_left
        · intro wz hSw; skip; go_simp; try (with_reducible rfl)
        try simp only [Act.put, List.setIfInBounds_toArray, List.set_cons_zero, List.set_cons_succ, List.getElem_toArray, List.getElem_cons_succ, List.getElem_cons_zero]
        refine take_at (some 75) (i := 12) (v := ?_) rfl rfl (by kernel_rfl) (by kernel_rfl) (by kernel_rfl) (fun _ _ _ h => h) (Or.inl ⟨by kernel_rfl, ?_⟩) hHeld ?_
        rotate_left
        · intro wz hSw; skip; go_simp; try (with_reducible rfl)
        try simp only [Act.put, List.setIfInBounds_toArray, List.set_cons_zero, List.set_cons_succ, List.getElem_toArray, List.getElem_cons_succ, List.getElem_cons_zero]
        refine take_at (some 76) (i := 13) (v := ?_) rfl rfl (by kernel_rfl) (by kernel_rfl) (by kernel_rfl) (fun _ _ _ h => h) (Or.inl ⟨by kernel_rfl, ?_⟩) hHeld ?_
        rotate_left
        · intro wz hSw; obtain ⟨_, _, c2⟩ := (HOP.out _ hSw).1; rw [HT.out.2.2.2.2] at c2; go_simp; try (with_reducible rfl)
        try simp only [Act.put, List.setIfInBounds_toArray, List.set_cons_zero, List.set_cons_succ, List.getElem_toArray, List.getElem_cons_succ, List.getElem_cons_zero]
        refine wpAnyH_ready (rs := [6]) (by kernel_rfl) (by simp) (AllReadyH.cons rfl (fun K hK => ?_) AllReadyH.nil)
        rw [if_pos (by kernel_rfl)]
        go_simp
        refine (w_take H6.out.a x k t HK.out HT.out.1).mono ?_
        rintro e w7 ⟨rfl, hb7, k7, h7⟩
        try dsimp only
        refine hK.out _ _ (h7.b) (fun hHeld => ?_)
        try simp only [Act.put, List.setIfInBounds_toArray, List.set_cons_zero, List.set_cons_succ, List.getElem_toArray, List.getElem_cons_succ, List.getElem_cons_zero]
        rw [HT.out.2.2.1] at hb7
        rw [HT.out.2.2.2.1] at h7
        have hlt7 := H6.out.b.rg.lt
        generalize hs7 : w6.heap.size = s7 at *
        have H7 := Lib.hid (show Two W w7 r g r' g' M D q from H6.out.first k7 (by simp) h7)
        have HB7 := Lib.hid hb7
        have HLT := Lib.hid hlt7
        clear hb7 k7 h7 hlt7 hs7
        refine wpAnyH_mono (S' := fun v => Below W.heap.size W v ∧ Rb v (s7 + 1) (some ⟨s7, 0, none⟩) T) (fun _ h => h.1) _ _ _ _ ?_
        replace hHeld : (fun v => Below W.heap.size W v ∧ Rb v (s7 + 1) (some ⟨s7, 0, none⟩) T) w7 := ⟨H7.out.a.b, Rb.bk HB7.out⟩
        refine take_at (some 70) (i := 7) rfl rfl (by kernel_rfl) (by kernel_rfl) (by kernel_rfl) (fun _ _ _ h => h) (yieldsIf_conv (by kernel_rfl) 29 5 9 (.tmp 69) rfl (some ⟨s7, 0, none⟩) t t T rfl HT.out.2.1 (fun w h => h.2) Try.underlying29 Try.underlying5 Try.underlying9) hHeld ?_
        try simp only [Act.put, List.setIfInBounds_toArray, List.set_cons_zero, List.set_cons_succ, List.getElem_toArray, List.getElem_cons_succ, List.getElem_cons_zero]
        refine wpAnyH_ready (rs := [14]) (by kernel_rfl) (by simp) (AllReadyH.cons rfl (fun K hK => ?_) AllReadyH.nil)
        rw [if_pos (by kernel_rfl)]
        go_simp
        refine (w_take H7.out.b x k t HK.out HT.out.1).mono ?_
        rintro e w8 ⟨rfl, hb8, k8, h8⟩
        try dsimp only
        rw [HT.out.2.2.1] at hb8
        rw [HT.out.2.2.2.1] at h8
        generalize hs8 : w7.heap.size = s8 at *
        have H8 := Lib.hid (show Two W w8 r g r' g' M D D from H7.out.second k8 (by simp) h8)
        have HB8 := Lib.hid hb8
        refine hK.out _ _ (show (fun v => Below W.heap.size W v ∧ Rb v (s7 + 1) (some ⟨s7, 0, none⟩) T) w8 from ⟨H8.out.a.b, Rb.bk (HB7.out.ke k8 (by have := HLT.out; simp; omega))⟩) (fun hHeld => ?_)
        try simp only [Act.put, List.setIfInBounds_toArray, List.set_cons_zero, List.set_cons_succ, List.getElem_toArray, List.getElem_cons_succ, List.getElem_cons_zero]
        clear hb8 k8 h8 hs8 H7
        refine wpAnyH_mono (S' := fun v => (Below W.heap.size W v ∧ Rb v (s7 + 1) (some ⟨s7, 0, none⟩) T) ∧ Rb v (s8 + 1) (some ⟨s8, 0, none⟩) T) (fun _ h => h.1) _ _ _ _ ?_
        replace hHeld : (fun v => (Below W.heap.size W v ∧ Rb v (s7 + 1) (some ⟨s7, 0, none⟩) T) ∧ Rb v (s8 + 1) (some ⟨s8, 0, none⟩) T) w8 := ⟨hHeld, Rb.bk HB8.out⟩
        refine take_at (some 78) (i := 15) rfl rfl (by kernel_rfl) (by kernel_rfl) (by kernel_rfl) (fun _ _ _ h => h) (yieldsIf_conv (by kernel_rfl) 29 5 9 (.tmp 77) rfl (some ⟨s8, 0, none⟩) t t T rfl HT.out.2.1 (fun w h => h.2) Try.underlying29 Try.underlying5 Try.underlying9) hHeld ?_
        try simp only [Act.put, List.setIfInBounds_toArray, List.set_cons_zero, List.set_cons_succ, List.getElem_toArray, List.getElem_cons_succ, List.getElem_cons_zero]
        refine take_at (some 79) (i := 16) (v := ?_) rfl rfl (by kernel_rfl) (by kernel_rfl) (by kernel_rfl) (fun _ _ _ h => h) (Or.inl ⟨by kernel_rfl, ?_⟩) hHeld ?_
        rotate_left
        · intro wz hSw; go_simp; try (with_reducible rfl)
        try simp only [Act.put, List.setIfInBounds_toArray, List.set_cons_zero, List.set_cons_succ, List.getElem_toArray, List.getElem_cons_succ, List.getElem_cons_zero]
        refine wpAnyH_done (by kernel_rfl) ?_ _
        clear hHeld
        go_wp2_with fail
        go_roundw
        case rel => exact ⟨i + 1, D, by omega, by go_num, H8⟩
        case measure => simp [intOf]; omega
      · have hw2 : (m.what == 2) = false := by rw [beq_eq_false_iff_ne]; exact hw
        obtain ⟨x, hx⟩ : ∃ x, min n1 s = x := ⟨_, rfl⟩
        obtain ⟨Q, hQ⟩ : ∃ Q, q ++ m.l.take s = Q := ⟨_, rfl⟩
        have HT := Lib.hid (show min n1 s = x ∧ q ++ m.l.take s = Q from ⟨hx, hQ⟩)
        clear hx hw hQ c1 c2
        go_upto_region 15 with (fail)
        clear c0
        try simp only [List.cons_append, List.nil_append]
        refine wp_region_held_drew (S := fun v => Below W.heap.size W v) (by kernel_rfl) (H5.out.a.b.drew) (fun hHeld => ?_)
        have H6 := Lib.hid (H5.out.ke (Ke.refl _ _).drew)
        clear H5
        generalize uz.drew = w6 at H6 hHeld ⊢
        refine take_at (some 80) (i := 0) (v := ?_) rfl rfl (by kernel_rfl) (by kernel_rfl) (by kernel_rfl) (fun _ _ _ h => h) (Or.inl ⟨by kernel_rfl, ?_⟩) hHeld ?_
        rotate_left
        · intro wz hSw; skip; go_simp; try (with_reducible rfl)
        try simp only [Act.put, List.setIfInBounds_toArray, List.set_cons_zero, List.set_cons_succ, List.getElem_toArray, List.getElem_cons_succ, List.getElem_cons_zero]
        refine take_at (some 81) (i := 1) (v := ?_) rfl rfl (by kernel_rfl) (by kernel_rfl) (by kernel_rfl) (fun _ _ _ h => h) (Or.inl ⟨by kernel_rfl, ?_⟩) hHeld ?_
        rotate_left
        · intro wz hSw; skip; go_simp; try (with_reducible rfl)
        try simp only [Act.put, List.setIfInBounds_toArray, List.set_cons_zero, List.set_cons_succ, List.getElem_toArray, List.getElem_cons_succ, List.getElem_cons_zero]
        refine take_at (some 82) (i := 2) (v := ?_) rfl rfl (by kernel_rfl) (by kernel_rfl) (by kernel_rfl) (fun _ _ _ h => h) (Or.inl ⟨by kernel_rfl, ?_⟩) hHeld ?_
        rotate_left
        · intro wz hSw; skip; go_simp; try (with_reducible rfl)
        try simp only [Act.put, List.setIfInBounds_toArray, List.set_cons_zero, List.set_cons_succ, List.getElem_toArray, List.getElem_cons_succ, List.getElem_cons_zero]
        refine take_at (some 83) (i := 3) (v := ?_) rfl rfl (by kernel_rfl) (by kernel_rfl) (by kernel_rfl) (fun _ _ _ h => h) (Or.inl ⟨by kernel_rfl, ?_⟩) hHeld ?_
        rotate_left
        · intro wz hSw; skip; go_simp; try (with_reducible rfl)
        try simp only [Act.put, List.setIfInBounds_toArray, List.set_cons_zero, List.set_cons_succ, List.getElem_toArray, List.getElem_cons_succ, List.getElem_cons_zero]
        refine take_at (some 84) (i := 4) (v := ?_) rfl rfl (by kernel_rfl) (by kernel_rfl) (by kernel_rfl) (fun _ _ _ h => h) (Or.inl ⟨by kernel_rfl, ?_⟩) hHeld ?_
        rotate_left
        · intro wz hSw; skip; go_simp; try (with_reducible rfl)
        try simp only [Act.put, List.setIfInBounds_toArray, List.set_cons_zero, List.set_cons_succ, List.getElem_toArray, List.getElem_cons_succ, List.getElem_cons_zero]
        refine take_at (some 85) (i := 5) (v := ?_) rfl rfl (by kernel_rfl) (by kernel_rfl) (by kernel_rfl) (fun _ _ _ h => h) (Or.inl ⟨by kernel_rfl, ?_⟩) hHeld ?_
        rotate_left
        · intro wz hSw; obtain ⟨_, c1, _⟩ := (HOP.out _ hSw).1; rw [HM.out.2.1] at c1; go_simp; try (with_reducible rfl)
        try simp only [Act.put, List.setIfInBounds_toArray, List.set_cons_zero, List.set_cons_succ, List.getElem_toArray, List.getElem_cons_succ, List.getElem_cons_zero]
        refine take_at (some 87) (i := 7) (v := ?_) rfl rfl (by kernel_rfl) (by kernel_rfl) (by kernel_rfl) (fun _ _ _ h => h) (Or.inl ⟨by kernel_rfl, ?_⟩) hHeld ?_
        rotate_left
        · intro wz hSw; skip; go_simp; try (with_reducible rfl)
        try simp only [Act.put, List.setIfInBounds_toArray, List.set_cons_zero, List.set_cons_succ, List.getElem_toArray, List.getElem_cons_succ, List.getElem_cons_zero]
        refine take_at (some 88) (i := 8) (v := ?_) rfl rfl (by kernel_rfl) (by kernel_rfl) (by kernel_rfl) (fun _ _ _ h => h) (Or.inl ⟨by kernel_rfl, ?_⟩) hHeld ?_
        rotate_left
        · intro wz hSw; skip; go_simp; try (with_reducible rfl)
        try simp only [Act.put, List.setIfInBounds_toArray, List.set_cons_zero, List.set_cons_succ, List.getElem_toArray, List.getElem_cons_succ, List.getElem_cons_zero]
        refine take_at (some 89) (i := 9) (v := ?_) rfl rfl (by kernel_rfl) (by kernel_rfl) (by kernel_rfl) (fun _ _ _ h => h) (Or.inl ⟨by kernel_rfl, ?_⟩) hHeld ?_
        rotate_left
        · intro wz hSw; skip; go_simp; try (with_reducible rfl)
        try simp only [Act.put, List.setIfInBounds_toArray, List.set_cons_zero, List.set_cons_succ, List.getElem_toArray, List.getElem_cons_succ, List.getElem_cons_zero]
        refine take_at (some 90) (i := 10) (v := ?_) rfl rfl (by kernel_rfl) (by kernel_rfl) (by kernel_rfl) (fun _ _ _ h => h) (Or.inl ⟨by kernel_rfl, ?_⟩) hHeld ?_
        rotate_left
        · intro wz hSw; skip; go_simp; try (with_reducible rfl)
        try simp only [Act.put, List.setIfInBounds_toArray, List.set_cons_zero, List.set_cons_succ, List.getElem_toArray, List.getElem_cons_succ, List.getElem_cons_zero]
        refine take_at (some 91) (i := 11) (v := ?_) rfl rfl (by kernel_rfl) (by kernel_rfl) (by kernel_rfl) (fun _ _ _ h => h) (Or.inl ⟨by kernel_rfl, ?_⟩) hHeld ?_
        rotate_left
        · intro wz hSw; skip; go_simp; try (with_reducible rfl)
        try simp only [Act.put, List.setIfInBounds_toArray, List.set_cons_zero, List.set_cons_succ, List.getElem_toArray, List.getElem_cons_succ, List.getElem_cons_zero]
        refine take_at (some 92) (i := 12) (v := ?_) rfl rfl (by kernel_rfl) (by kernel_rfl) (by kernel_rfl) (fun _ _ _ h => h) (Or.inl ⟨by kernel_rfl, ?_⟩) hHeld ?_
        rotate_left
        · intro wz hSw; obtain ⟨_, c1, _⟩ := (HOP.out _ hSw).1; rw [HM.out.2.1] at c1; go_simp; try (with_reducible rfl)
        try simp only [Act.put, List.setIfInBounds_toArray, List.set_cons_zero, List.set_cons_succ, List.getElem_toArray, List.getElem_cons_succ, List.getElem_cons_zero]
        refine wpAnyH_ready (rs := [6]) (by kernel_rfl) (by simp) (AllReadyH.cons rfl (fun K hK => ?_) AllReadyH.nil)
        rw [if_pos (by kernel_rfl)]
        go_simp
        refine (w_add_op H6.out.a m (HOP.out _ H6.out.a.b).2 n1 s x HM.out.2.1 HM.out.1 HT.out.1).mono ?_
        rintro e w7 ⟨rfl, k7, h7⟩
        try dsimp only
        refine hK.out _ _ (h7.b) (fun hHeld => ?_)
        try simp only [Act.put, List.setIfInBounds_toArray, List.set_cons_zero, List.set_cons_succ, List.getElem_toArray, List.getElem_cons_succ, List.getElem_cons_zero]
        rw [HT.out.2] at h7
        have H7 := Lib.hid (show Two W w7 r g r' g' M Q q from H6.out.first k7 (by simp) h7)
        clear k7 h7
        refine wpAnyH_ready (rs := [13]) (by kernel_rfl) (by simp) (AllReadyH.cons rfl (fun K hK => ?_) AllReadyH.nil)
        rw [if_pos (by kernel_rfl)]
        go_simp
        refine (w_add_op H7.out.b m (HOP.out _ H7.out.a.b).2 n1 s x HM.out.2.1 HM.out.1 HT.out.1).mono ?_
        rintro e w8 ⟨rfl, k8, h8⟩
        try dsimp only
        refine hK.out _ _ (h8.b) (fun hHeld => ?_)
        try simp only [Act.put, List.setIfInBounds_toArray, List.set_cons_zero, List.set_cons_succ, List.getElem_toArray, List.getElem_cons_succ, List.getElem_cons_zero]
        rw [HT.out.2] at h8
        have H8 := Lib.hid (show Two W w8 r g r' g' M Q Q from H7.out.second k8 (by simp) h8)
        clear k8 h8
        refine take_at (some 94) (i := 14) (v := ?_) rfl rfl (by kernel_rfl) (by kernel_rfl) (by kernel_rfl) (fun _ _ _ h => h) (Or.inl ⟨by kernel_rfl, ?_⟩) hHeld ?_
        rotate_left
        · intro wz hSw; go_simp; try (with_reducible rfl)
        try simp only [Act.put, List.setIfInBounds_toArray, List.set_cons_zero, List.set_cons_succ, List.getElem_toArray, List.getElem_cons_succ, List.getElem_cons_zero]
        refine wpAnyH_done (by kernel_rfl) ?_ _
        clear hHeld
        go_wp2_with fail
        go_roundw
        case rel => exact ⟨i + 1, Q, by omega, by go_num, H8⟩
        case measure => simp [intOf]; omega
    · have hi2 : ¬ (i : Int) < (n : Int) := by omega
      have hxx : ((bs q).toList == (bs q).toList) = true := beq_self_eq_true _
      go_upto_region 17 with (fail)
      have H6 := Lib.hid (HW.out.ke (Ke.refl _ _).drew)
      try simp only [List.cons_append, List.nil_append]
      refine wp_region_held_drew (S := fun v => Below W.heap.size W v) (by kernel_rfl) (H6.out.a.b) (fun hHeld => ?_)
      generalize wr.drew = w6 at H6 hHeld ⊢
      refine take_at (some 95) (i := 0) (v := ?_) rfl rfl (by kernel_rfl) (by kernel_rfl) (by kernel_rfl) (fun _ _ _ h => h) (Or.inl ⟨by kernel_rfl, ?_⟩) hHeld ?_
      rotate_left
      · intro wz hSw; go_simp; try (with_reducible rfl)
      try simp only [Act.put, List.setIfInBounds_toArray, List.set_cons_zero, List.set_cons_succ, List.getElem_toArray, List.getElem_cons_succ, List.getElem_cons_zero]
      refine take_at (some 96) (i := 1) (v := ?_) rfl rfl (by kernel_rfl) (by kernel_rfl) (by kernel_rfl) (fun _ _ _ h => h) (Or.inl ⟨by kernel_rfl, ?_⟩) hHeld ?_
      rotate_left
      · intro wz hSw; go_simp; try (with_reducible rfl)
      try simp only [Act.put, List.setIfInBounds_toArray, List.set_cons_zero, List.set_cons_succ, List.getElem_toArray, List.getElem_cons_succ, List.getElem_cons_zero]
      refine take_at (some 97) (i := 2) (v := ?_) rfl rfl (by kernel_rfl) (by kernel_rfl) (by kernel_rfl) (fun _ _ _ h => h) (Or.inl ⟨by kernel_rfl, ?_⟩) hHeld ?_
      rotate_left
      · intro wz hSw; go_simp; try (with_reducible rfl)
      try simp only [Act.put, List.setIfInBounds_toArray, List.set_cons_zero, List.set_cons_succ, List.getElem_toArray, List.getElem_cons_succ, List.getElem_cons_zero]
      refine take_at (some 100) (i := 5) (v := ?_) rfl rfl (by kernel_rfl) (by kernel_rfl) (by kernel_rfl) (fun _ _ _ h => h) (Or.inl ⟨by kernel_rfl, ?_⟩) hHeld ?_
      rotate_left
      · intro wz hSw; go_simp; try (with_reducible rfl)
      try simp only [Act.put, List.setIfInBounds_toArray, List.set_cons_zero, List.set_cons_succ, List.getElem_toArray, List.getElem_cons_succ, List.getElem_cons_zero]
      refine wpAnyH_ready (rs := [3]) (by kernel_rfl) (by simp) (AllReadyH.cons rfl (fun K hK => ?_) AllReadyH.nil)
      rw [if_pos (by kernel_rfl)]
      go_simp
      refine (w_look H6.out.a k HK.out).mono ?_
      rintro e w7 ⟨rfl, hb7, k7, h7⟩
      try dsimp only
      refine hK.out _ _ (h7.b) (fun hHeld => ?_)
      try simp only [Act.put, List.setIfInBounds_toArray, List.set_cons_zero, List.set_cons_succ, List.getElem_toArray, List.getElem_cons_succ, List.getElem_cons_zero]
      have hlt7 := H6.out.b.rg.lt
      generalize hs7 : w6.heap.size = s7 at *
      have H7 := Lib.hid (show Two W w7 r g r' g' M q q from H6.out.ke k7)
      have HB7 := Lib.hid hb7
      clear hb7 k7 h7 hlt7 hs7
      refine wpAnyH_mono (S' := fun v => Below W.heap.size W v ∧ Rb v (s7 + 1) (some ⟨s7, 0, none⟩) q) (fun _ h => h.1) _ _ _ _ ?_
      replace hHeld : (fun v => Below W.heap.size W v ∧ Rb v (s7 + 1) (some ⟨s7, 0, none⟩) q) w7 := ⟨H7.out.a.b, Rb.bk HB7.out⟩
      refine take_at (some 99) (i := 4) rfl rfl (by kernel_rfl) (by kernel_rfl) (by kernel_rfl) (fun _ _ _ h => h) (yieldsIf_conv (by kernel_rfl) 29 5 9 (.tmp 98) rfl (some ⟨s7, 0, none⟩) k k q rfl HK.out (fun w h => h.2) Try.underlying29 Try.underlying5 Try.underlying9) hHeld ?_
      try simp only [Act.put, List.setIfInBounds_toArray, List.set_cons_zero, List.set_cons_succ, List.getElem_toArray, List.getElem_cons_succ, List.getElem_cons_zero]
      refine wpAnyH_ready (rs := [6]) (by kernel_rfl) (by simp) (AllReadyH.cons rfl (fun K hK => ?_) AllReadyH.nil)
      rw [if_pos (by kernel_rfl)]
      go_simp
      refine (w_look H7.out.b k HK.out).mono ?_
      rintro e w8 ⟨rfl, hb8, k8, h8⟩
      try dsimp only
      generalize hs8 : w7.heap.size = s8 at *
      have H8 := Lib.hid (show Two W w8 r g r' g' M q q from H7.out.ke k8)
      have HB8 := Lib.hid hb8
      refine hK.out _ _ (show (fun v => Below W.heap.size W v ∧ Rb v (s7 + 1) (some ⟨s7, 0, none⟩) q) w8 from ⟨H8.out.a.b, Rb.bk (HB7.out.ke k8 (by simp))⟩) (fun hHeld => ?_)
      try simp only [Act.put, List.setIfInBounds_toArray, List.set_cons_zero, List.set_cons_succ, List.getElem_toArray, List.getElem_cons_succ, List.getElem_cons_zero]
      clear hb8 k8 h8 hs8 H7
      refine wpAnyH_mono (S' := fun v => (Below W.heap.size W v ∧ Rb v (s7 + 1) (some ⟨s7, 0, none⟩) q) ∧ Rb v (s8 + 1) (some ⟨s8, 0, none⟩) q) (fun _ h => h.1) _ _ _ _ ?_
      replace hHeld : (fun v => (Below W.heap.size W v ∧ Rb v (s7 + 1) (some ⟨s7, 0, none⟩) q) ∧ Rb v (s8 + 1) (some ⟨s8, 0, none⟩) q) w8 := ⟨hHeld, Rb.bk HB8.out⟩
      refine take_at (some 102) (i := 7) rfl rfl (by kernel_rfl) (by kernel_rfl) (by kernel_rfl) (fun _ _ _ h => h) (yieldsIf_conv (by kernel_rfl) 29 5 9 (.tmp 101) rfl (some ⟨s8, 0, none⟩) k k q rfl HK.out (fun w h => h.2) Try.underlying29 Try.underlying5 Try.underlying9) hHeld ?_
      try simp only [Act.put, List.setIfInBounds_toArray, List.set_cons_zero, List.set_cons_succ, List.getElem_toArray, List.getElem_cons_succ, List.getElem_cons_zero]
      refine take_at (some 103) (i := 8) (v := ?_) rfl rfl (by kernel_rfl) (by kernel_rfl) (by kernel_rfl) (fun _ _ _ h => h) (Or.inl ⟨by kernel_rfl, ?_⟩) hHeld ?_
      rotate_left
      · intro wz hSw; go_simp; try (with_reducible rfl)
      try simp only [Act.put, List.setIfInBounds_toArray, List.set_cons_zero, List.set_cons_succ, List.getElem_toArray, List.getElem_cons_succ, List.getElem_cons_zero]
      refine take_at (some 104) (i := 9) (v := ?_) rfl rfl (by kernel_rfl) (by kernel_rfl) (by kernel_rfl) (fun _ _ _ h => h) (Or.inl ⟨by kernel_rfl, ?_⟩) hHeld ?_
      rotate_left
      · intro wz hSw; go_simp; try (with_reducible rfl)
      try simp only [Act.put, List.setIfInBounds_toArray, List.set_cons_zero, List.set_cons_succ, List.getElem_toArray, List.getElem_cons_succ, List.getElem_cons_zero]
      refine take_at (some 4) (i := 10) (v := ?_) rfl rfl (by kernel_rfl) (by kernel_rfl) (by kernel_rfl) (fun _ _ _ h => h) (Or.inl ⟨by kernel_rfl, ?_⟩) hHeld ?_
      rotate_left
      · intro wz hSw; go_simp; try (with_reducible rfl)
      try simp only [Act.put, List.setIfInBounds_toArray, List.set_cons_zero, List.set_cons_succ, List.getElem_toArray, List.getElem_cons_succ, List.getElem_cons_zero]
      refine wpAnyH_done (by kernel_rfl) ?_ _
      clear hHeld
      go_wp2_with fail
      go_ret
      exact ⟨rfl, H8.out.a.b⟩
end Go.Proofs.Ytiomfinimbogaaa
