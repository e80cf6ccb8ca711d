/- The walk of WireBack. (Written by gen_wback.py.) -/
import Derived.Test.YtimhjmeebahdaaaDoorWHead
import Derived.Test.YtimhjmeebahdaaaDoorOpen
import Derived.Test.YtimhjmeebahdaaaDoorBq
import Derived.Test.YtimhjmeebahdaaaDoorConvR
import Derived.Test.YtimhjmeebahdaaaDoorAppOp
import Derived.Test.YtimhjmeebahdaaaDoorGetAny
namespace Go.Proofs.YtimhjmeebahdaaaDoor
set_option linter.unusedVariables false
set_option linter.unusedSimpArgs false
open Go.RowKit

set_option maxRecDepth 100000 in
set_option maxHeartbeats 8000000 in
theorem walk_WireBack (x : Mg) (A : Option Addr) (l : List UInt8) (n c : Nat) (cu0 mo0 : Int) (W : World) (wa : x.a.size ≤ 140737488355328) (wb : x.b.size ≤ 140737488355328) (wl : InB W A l n c) (wc : (Lit.int .u16 cu0).wf = true) (wm : (Lit.int .u8 mo0).wf = true) (hG : Gw W) :
    Calls Tryd.prog 4 #[.agg x.cells, .slice A n c, .int .u16 cu0, .int .u8 mo0] W fun e w' => e = .returned (.bool true) ∧ Below W.heap.size W w' := by
  obtain ⟨cu, hcu, rfl⟩ : ∃ u : Nat, u < 65536 ∧ cu0 = (u : Int) := by
    have e1 : IntKind.u16.min = 0 := by decide
    have e2 : IntKind.u16.max = 65535 := by decide
    simp only [Lit.wf, e1, e2, Bool.and_eq_true, decide_eq_true_eq] at wc
    exact ⟨cu0.toNat, by omega, by omega⟩
  obtain ⟨mo, hmo, rfl⟩ : ∃ u : Nat, u < 256 ∧ mo0 = (u : Int) := by
    have e1 : IntKind.u8.min = 0 := by decide
    have e2 : IntKind.u8.max = 255 := by decide
    simp only [Lit.wf, e1, e2, Bool.and_eq_true, decide_eq_true_eq] at wm
    exact ⟨mo0.toNat, by omega, by omega⟩
  have HMO := Lib.hid (show (mo : Int) = ((UInt8.ofNat mo).toNat : Int) by rw [u8_ofNat _ hmo])
  have hmx := wl.max
  have hcn := wl.cap
  unfold maxLen at hmx
  have H0 := Lib.hid (Bq.of (MgAt.new (B := W.heap.size) (w := W) (x := x) hG rfl))
  have HGR := Lib.hid (fun u => great_ok x u (by omega) (by omega))
  have HPUT := Lib.hid (fun u (h : Gw u) => wput_ok x u h (by omega) (by omega))
  have HRT := Lib.hid (fun u (h : Gw u) => right_ok x u h (by omega) (by omega))
  have HL := Lib.hid wl.len
  have HRB := Lib.hid wl.rb
  obtain ⟨gr, hgr⟩ : ∃ gr, decide (9000 < x.a.size + x.b.size) = gr := ⟨_, rfl⟩
  rw [hgr] at HGR
  clear wa wb hgr hG wl wc wm hmo
  obtain ⟨P, hP⟩ : ∃ P, putW x = P := ⟨_, rfl⟩
  obtain ⟨L, hL⟩ : ∃ L, P.length = L := ⟨_, rfl⟩
  have HPL := Lib.hid hL
  have hL2 : L ≤ 200 := by rw [← hL, ← hP]; exact putW_len x
  obtain ⟨rt, hrt⟩ : ∃ rt, rightM x = rt := ⟨_, rfl⟩
  have HPN := Lib.hid (show rt = false → L = 0 from fun h => by rw [← hL, ← hP, putW_none x (by rw [hrt, h])]; rfl)
  have HPR := Lib.hid (show rt = true → 0 < L from fun h => by rw [← hL, ← hP, put_right x (by rw [hrt, h])]; simp)
  have HSAME := Lib.hid (show rt = true → getW P = some x from fun h => by rw [← hP]; exact getW_put x (by rw [hrt, h]))
  have HCUT := Lib.hid (show rt = true → ∀ i, i < L → getW (P.take i) = none from fun h i hi => by rw [← hP]; exact getW_cut x (by rw [hrt, h]) i (by rw [hP, hL]; exact hi))
  have HMORE := Lib.hid (show rt = true → getW (P ++ [UInt8.ofNat mo]) = none from fun h => by rw [← hP]; exact getW_more x (by rw [hrt, h]) _)
  rw [hrt] at HRT
  rw [hP, hL] at HPUT
  clear hP hL hrt
  obtain ⟨k, a, b, n0, m⟩ := x
  go_enter Tryd.func4, Tryd.ntmps4
  go_wp2_with fail
  refine (whead_ok _ H0.out.glob).mono ?_
  rintro e w1 ⟨rfl, hb1⟩
  have H1 := Lib.hid (H0.out.on hb1)
  clear hb1 H0
  have cs := H1.out.c W.heap.size (.head _)
  go_wp2_with fail
  clear cs
  refine (HGR.out _).mono ?_
  rintro e w2 ⟨rfl, hb2⟩
  have H2 := Lib.hid (H1.out.on hb2)
  clear hb2 H1 HGR
  cases gr with
  | true =>
    have HB := H2.out.b
    go_wp2_with fail
    go_ret
    exact ⟨rfl, HB⟩
  | false =>
  by_cases hg : 9000 < n
  · have HB := H2.out.b
    have hg2 : (9000 : Int) < (n : Int) := by omega
    go_wp2_with fail
    go_ret
    exact ⟨rfl, HB⟩
  have hg2 : ¬ (9000 : Int) < (n : Int) := by omega
  have hn9 : n ≤ 9000 := by omega
  have cs := H2.out.c W.heap.size (.head _)
  go_wp2_with fail
  clear cs
  refine (HPUT.out _ H2.out.glob).mono ?_
  rintro e w3 ⟨A2, c2, rfl, hO, hb3⟩
  have HO := Lib.hid hO
  have H3 := Lib.hid (H2.out.on hb3)
  clear hb3 hO H2 HPUT hg hg2
  have cs := H3.out.c W.heap.size (.head _)
  go_wp2_with fail
  clear cs
  refine (HRT.out _ H3.out.glob).mono ?_
  rintro e w4 ⟨rfl, hb4⟩
  have H4 := Lib.hid (H3.out.on hb4)
  have hs4 : w3.heap.size ≤ w4.heap.size := hb4.size
  have HP4 := Lib.hid (show Rb w4 w3.heap.size A2 P from HO.out.rb.below hb4 (Nat.le_refl _))
  cases rt with
  | false =>
    obtain rfl : L = 0 := HPN.out rfl
    clear HPN HPR HSAME HCUT HMORE HPL HO HRT hb4 H3 HP4 hs4 HMO
    obtain ⟨yk, yn, ym, ya, yb, is, his, hyes, hno, hE⟩ := getE_any (getW l)
    have hget := wget_ok A l n c w4 H4.out.glob ((HRB.out.below H4.out.b (Nat.le_refl _)).more H4.out.b.size) (by have := HL.out; omega) HL.out hcn (by omega)
    rw [hE] at hget
    have HGET := Lib.hid hget
    have HYES := Lib.hid (show is = true → rightM ⟨yk, ya, yb, yn, ym⟩ = true ∧ putW ⟨yk, ya, yb, yn, ym⟩ = l from fun h => getW_is l _ (hyes h))
    have HNO := Lib.hid hno
    clear hget hE hyes hno his
    go_wp2_with fail
    refine HGET.out.mono ?_
    rintro e v1 ⟨rfl, hb⟩
    have K1 := Lib.hid (H4.out.on hb)
    clear hb HGET H4
    go_upto_region 14 with (fail)
    have K2 := Lib.hid (show Bq W [(v1.heap.size, ⟨yk, ya, yb, yn, ym⟩), (W.heap.size, ⟨k, a, b, n0, m⟩)] (v1.alloc (.cells #[.int .i64 yk, .string ya, .string yb, .int .i64 yn, .int .i64 ym] 23)) from K1.out.new _)
    obtain ⟨gy, hgy⟩ : ∃ g, v1.heap.size = g := ⟨_, rfl⟩
    generalize v1.alloc (.cells #[.int .i64 yk, .string ya, .string yb, .int .i64 yn, .int .i64 ym] 23) = v2 at K2 ⊢
    rw [hgy] at K2 ⊢
    clear K1 hgy
    cases is with
    | false =>
      obtain ⟨_, rfl, rfl, rfl, rfl, rfl⟩ := HNO.out rfl
      have cy := K2.out.c gy (.head _)
      have HB := K2.out.b
      simp only [bs] at cy
      have HSZ := Lib.hid (eqM_same (zeroM 0))
      go_wp2_with (refine wpList_eqm (by kernel_rfl) (.tmp 92) (.tmp 93) _ rfl (zeroM 0) (zeroM 0) rfl rfl ?_; rw [HSZ.out])
      go_ret
      exact ⟨rfl, HB⟩
    | true =>
      obtain ⟨hy1, hy2⟩ := HYES.out rfl
      obtain ⟨_, _, hya, hyb, _⟩ := right_parts _ hy1
      have HRY := Lib.hid (fun u (h : Gw u) => right_ok ⟨yk, ya, yb, yn, ym⟩ u h (Nat.le_trans hya (by decide)) (Nat.le_trans hyb (by decide)))
      have HPY := Lib.hid (fun u (h : Gw u) => wput_ok ⟨yk, ya, yb, yn, ym⟩ u h (Nat.le_trans hya (by decide)) (Nat.le_trans hyb (by decide)))
      rw [hy1] at HRY
      rw [hy2, HL.out] at HPY
      clear hy1 hy2 hya hyb HYES HNO
      go_upto_region 16 with (fail)
      have K3 := Lib.hid K2.out.draw
      clear K2
      try simp only [List.cons_append, List.nil_append]
      refine wp_region_held_drew (S := fun u => Bq W [(gy, ⟨yk, ya, yb, yn, ym⟩), (W.heap.size, ⟨k, a, b, n0, m⟩)] u) (by kernel_rfl) (K3.out) (fun hHeld => ?_)
      refine take_at (some 96) (i := 0) (v := ?_) rfl rfl (by kernel_rfl) (by kernel_rfl) (by kernel_rfl) (fun _ _ _ h => h) (Or.inl ⟨by kernel_rfl, ?_⟩) hHeld ?_
      rotate_left
      · intro wz hSw; go_simp; try (with_reducible rfl)
      try simp only [Act.put, List.setIfInBounds_toArray, List.set_cons_zero, List.set_cons_succ, List.getElem_toArray, List.getElem_cons_succ, List.getElem_cons_zero]
      refine take_at (some 97) (i := 1) (v := ?_) rfl rfl (by kernel_rfl) (by kernel_rfl) (by kernel_rfl) (fun _ _ _ h => h) (Or.inl ⟨by kernel_rfl, ?_⟩) hHeld ?_
      rotate_left
      · intro wz hSw; go_simp; try (with_reducible rfl)
      try simp only [Act.put, List.setIfInBounds_toArray, List.set_cons_zero, List.set_cons_succ, List.getElem_toArray, List.getElem_cons_succ, List.getElem_cons_zero]
      refine take_at (some 98) (i := 2) rfl rfl (by kernel_rfl) (by kernel_rfl) (by kernel_rfl) (fun _ _ _ h => h) (yieldsIf_load_row (by kernel_rfl) 23 (.tmp 17) rfl gy rfl 23 _ (fun w h => h.row _ (.head _)) Tryd.underlying23 rfl (by kernel_rfl)) hHeld ?_
      try simp only [Act.put, List.setIfInBounds_toArray, List.set_cons_zero, List.set_cons_succ, List.getElem_toArray, List.getElem_cons_succ, List.getElem_cons_zero]
      refine wpAnyH_ready (rs := [3]) (by kernel_rfl) (by simp) (AllReadyH.cons rfl (fun K hK => ?_) AllReadyH.nil)
      rw [if_pos (by kernel_rfl)]
      go_simp
      refine (HRY.out _ hHeld.glob).mono ?_
      rintro e u3 ⟨rfl, hbu⟩
      try dsimp only
      refine hK.out _ _ (hHeld.on hbu) (fun hHeld => ?_)
      try simp only [Act.put, List.setIfInBounds_toArray, List.set_cons_zero, List.set_cons_succ, List.getElem_toArray, List.getElem_cons_succ, List.getElem_cons_zero]
      clear hbu
      refine take_at (some 100) (i := 4) (v := ?_) rfl rfl (by kernel_rfl) (by kernel_rfl) (by kernel_rfl) (fun _ _ _ h => h) (Or.inl ⟨by kernel_rfl, ?_⟩) hHeld ?_
      rotate_left
      · intro wz hSw; go_simp; try (with_reducible rfl)
      try simp only [Act.put, List.setIfInBounds_toArray, List.set_cons_zero, List.set_cons_succ, List.getElem_toArray, List.getElem_cons_succ, List.getElem_cons_zero]
      refine take_at (some 101) (i := 5) (v := ?_) rfl rfl (by kernel_rfl) (by kernel_rfl) (by kernel_rfl) (fun _ _ _ h => h) (Or.inl ⟨by kernel_rfl, ?_⟩) hHeld ?_
      rotate_left
      · intro wz hSw; go_simp; try (with_reducible rfl)
      try simp only [Act.put, List.setIfInBounds_toArray, List.set_cons_zero, List.set_cons_succ, List.getElem_toArray, List.getElem_cons_succ, List.getElem_cons_zero]
      refine take_at (some 102) (i := 6) rfl rfl (by kernel_rfl) (by kernel_rfl) (by kernel_rfl) (fun _ _ _ h => h) (yieldsIf_load_row (by kernel_rfl) 23 (.tmp 17) rfl gy rfl 23 _ (fun w h => h.row _ (.head _)) Tryd.underlying23 rfl (by kernel_rfl)) hHeld ?_
      try simp only [Act.put, List.setIfInBounds_toArray, List.set_cons_zero, List.set_cons_succ, List.getElem_toArray, List.getElem_cons_succ, List.getElem_cons_zero]
      refine take_at (some 105) (i := 9) (v := ?_) rfl rfl (by kernel_rfl) (by kernel_rfl) (by kernel_rfl) (fun _ _ _ h => h) (Or.inl ⟨by kernel_rfl, ?_⟩) hHeld ?_
      rotate_left
      · intro wz hSw; go_simp; try (with_reducible rfl)
      try simp only [Act.put, List.setIfInBounds_toArray, List.set_cons_zero, List.set_cons_succ, List.getElem_toArray, List.getElem_cons_succ, List.getElem_cons_zero]
      refine take_at (some 106) (i := 10) rfl rfl (by kernel_rfl) (by kernel_rfl) (by kernel_rfl) (fun _ _ _ h => h) (yieldsIf_conv (by kernel_rfl) 24 5 9 (.tmp 105) rfl A n c l rfl HL.out (fun w h => HRB.out.below h.b (Nat.le_refl _)) Tryd.underlying24 Tryd.underlying5 Tryd.underlying9) hHeld ?_
      try simp only [Act.put, List.setIfInBounds_toArray, List.set_cons_zero, List.set_cons_succ, List.getElem_toArray, List.getElem_cons_succ, List.getElem_cons_zero]
      refine wpAnyH_ready (rs := [7]) (by kernel_rfl) (by simp) (AllReadyH.cons rfl (fun K hK => ?_) AllReadyH.nil)
      rw [if_pos (by kernel_rfl)]
      go_simp
      refine (HPY.out _ hHeld.glob).mono ?_
      rintro e u4 ⟨A4, c4, rfl, ho4, hbu⟩
      try dsimp only
      refine hK.out _ _ (hHeld.on hbu) (fun hHeld => ?_)
      try simp only [Act.put, List.setIfInBounds_toArray, List.set_cons_zero, List.set_cons_succ, List.getElem_toArray, List.getElem_cons_succ, List.getElem_cons_zero]
      have hrb4 := ho4.rb
      refine wpAnyH_mono (S' := fun u => Bq W [(gy, ⟨yk, ya, yb, yn, ym⟩), (W.heap.size, ⟨k, a, b, n0, m⟩)] u ∧ Rb u u4.heap.size A4 l) (fun _ h => h.1) _ _ _ _ ?_
      have hHeld := And.intro hHeld hrb4
      clear ho4 hbu
      refine take_at (some 104) (i := 8) rfl rfl (by kernel_rfl) (by kernel_rfl) (by kernel_rfl) (fun _ _ _ h => h) (yieldsIf_conv (by kernel_rfl) 24 5 9 (.tmp 103) rfl A4 n c4 l rfl HL.out (fun w h => h.2) Tryd.underlying24 Tryd.underlying5 Tryd.underlying9) hHeld ?_
      try simp only [Act.put, List.setIfInBounds_toArray, List.set_cons_zero, List.set_cons_succ, List.getElem_toArray, List.getElem_cons_succ, List.getElem_cons_zero]
      refine take_at (some 107) (i := 11) (v := ?_) rfl rfl (by kernel_rfl) (by kernel_rfl) (by kernel_rfl) (fun _ _ _ h => h) (Or.inl ⟨by kernel_rfl, ?_⟩) hHeld ?_
      rotate_left
      · intro wz hSw; go_simp; try (with_reducible rfl)
      try simp only [Act.put, List.setIfInBounds_toArray, List.set_cons_zero, List.set_cons_succ, List.getElem_toArray, List.getElem_cons_succ, List.getElem_cons_zero]
      refine take_at (some 108) (i := 12) (v := ?_) rfl rfl (by kernel_rfl) (by kernel_rfl) (by kernel_rfl) (fun _ _ _ h => h) (Or.inl ⟨by kernel_rfl, ?_⟩) hHeld ?_
      rotate_left
      · intro wz hSw; go_simp; try (with_reducible rfl)
      try simp only [Act.put, List.setIfInBounds_toArray, List.set_cons_zero, List.set_cons_succ, List.getElem_toArray, List.getElem_cons_succ, List.getElem_cons_zero]
      refine take_at (some 8) (i := 13) (v := ?_) rfl rfl (by kernel_rfl) (by kernel_rfl) (by kernel_rfl) (fun _ _ _ h => h) (Or.inl ⟨by kernel_rfl, ?_⟩) hHeld ?_
      rotate_left
      · intro wz hSw; go_simp; try (with_reducible rfl)
      try simp only [Act.put, List.setIfInBounds_toArray, List.set_cons_zero, List.set_cons_succ, List.getElem_toArray, List.getElem_cons_succ, List.getElem_cons_zero]
      refine wpAnyH_done (by kernel_rfl) ?_ _
      have HB := Lib.hid hHeld.1.b
      clear hK hHeld
      go_wp2
      go_ret
      exact ⟨rfl, HB.out⟩
  | true =>
    have hl0 : 0 < L := HPR.out rfl
    have hl1 : (0 : Int) < (L : Int) := by omega
    have hl2 : ¬ (200 : Int) < (L : Int) := by omega
    have hl3 : ((L : Int) == 0) = false := by rw [beq_eq_false_iff_ne]; omega
    obtain ⟨gp, rfl, hgp1, hgp2⟩ := HO.out.form (by intro h; have := HPL.out; rw [h] at this; simp at this; omega)
    have hcp := HO.out.cap
    rw [HPL.out] at hcp
    obtain ⟨hcp1, hcp2⟩ := hcp
    have HG1 := Lib.hid (HSAME.out rfl)
    have HG2 := Lib.hid (HCUT.out rfl)
    have HG3 := Lib.hid (HMORE.out rfl)
    clear HPN HPR HSAME HCUT HMORE HRT HO hgp1 hgp2
    have hcall := wget_ok (some ⟨gp, 0, none⟩) P L c2 w4 H4.out.glob (HP4.out.more hs4) (by rw [HPL.out]; omega) HPL.out hcp1 hcp2
    rw [HG1.out, getE_some] at hcall
    have HC := Lib.hid hcall
    clear hcall HG1 hb4 H3
    go_wp2_with fail
    refine HC.out.mono ?_
    rintro e w5 ⟨rfl, hb5⟩
    have H5 := Lib.hid (H4.out.on hb5)
    have HP5 := Lib.hid (HP4.out.below hb5 hs4)
    have hs5 : w3.heap.size ≤ w5.heap.size := Nat.le_trans hs4 hb5.size
    clear HC hb5 H4 HP4 hs4
    go_upto_region 9 with (fail)
    have hba : Below w5.heap.size w5 (w5.alloc (.cells #[.int .i64 k, .string a, .string b, .int .i64 n0, .int .i64 m] 23)) := (Below.refl w5.heap.size w5).alloc (Nat.le_refl _) _
    have H6 := Lib.hid (show Bq W [(w5.heap.size, ⟨k, a, b, n0, m⟩), (W.heap.size, ⟨k, a, b, n0, m⟩)] (w5.alloc (.cells #[.int .i64 k, .string a, .string b, .int .i64 n0, .int .i64 m] 23)) from H5.out.new _)
    have HP6 := Lib.hid (HP5.out.below hba hs5)
    have hs6 : w3.heap.size ≤ (w5.alloc (.cells #[.int .i64 k, .string a, .string b, .int .i64 n0, .int .i64 m] 23)).heap.size := Nat.le_trans hs5 hba.size
    clear hba
    obtain ⟨g6, hg6⟩ : ∃ g, w5.heap.size = g := ⟨_, rfl⟩
    generalize w5.alloc (.cells #[.int .i64 k, .string a, .string b, .int .i64 n0, .int .i64 m] 23) = w6 at H6 HP6 hs6 ⊢
    rw [hg6] at H6 ⊢
    clear H5 HP5 hs5 hg6
    obtain ⟨r, hr⟩ : ∃ r, r = cu % L := ⟨_, rfl⟩
    have hr1 : r < L := by rw [hr]; exact Nat.mod_lt _ hl0
    have z1 : (cu : Int) % (L : Int) = (r : Int) := by rw [hr]; exact (Int.natCast_emod _ _).symm
    have z2 : (cu : Int).tmod (L : Int) = (r : Int) := by rw [Int.tmod_eq_emod_of_nonneg (by omega)]; exact z1
    have hr2 : (r : Int) ≤ (c2 : Int) := by omega
    have hr3 : r ≤ c2 := by omega
    have hcall := wget_ok (some ⟨gp, 0, none⟩) (P.take r) r c2 w6 H6.out.glob ((HP6.out.front r).more hs6) (by rw [List.length_take, HPL.out]; omega) (by rw [List.length_take, HPL.out]; omega) hr3 hcp2
    rw [HG2.out r hr1, getE_none] at hcall
    have HC := Lib.hid hcall
    clear hcall HG2 hr
    go_wp2_with fail
    clear z1 z2 hr2 hr3 hr1
    refine HC.out.mono ?_
    rintro e w7 ⟨rfl, hb7⟩
    have H7 := Lib.hid (H6.out.on hb7)
    have HP7 := Lib.hid (HP6.out.below hb7 hs6)
    have hs7 : w3.heap.size ≤ w7.heap.size := Nat.le_trans hs6 hb7.size
    clear HC hb7 H6 HP6 hs6
    go_upto_region 10 with (fail)
    have hba : Below w7.heap.size w7 (w7.alloc (.cells #[.int .i64 0, .string ⟨#[]⟩, .string ⟨#[]⟩, .int .i64 0, .int .i64 0] 23)) := (Below.refl w7.heap.size w7).alloc (Nat.le_refl _) _
    have H8 := Lib.hid (show Bq W [(g6, ⟨k, a, b, n0, m⟩), (W.heap.size, ⟨k, a, b, n0, m⟩)] (w7.alloc (.cells #[.int .i64 0, .string ⟨#[]⟩, .string ⟨#[]⟩, .int .i64 0, .int .i64 0] 23)) from H7.out.on hba)
    have HP8 := Lib.hid (HP7.out.below hba hs7)
    have hs8 : w3.heap.size ≤ (w7.alloc (.cells #[.int .i64 0, .string ⟨#[]⟩, .string ⟨#[]⟩, .int .i64 0, .int .i64 0] 23)).heap.size := Nat.le_trans hs7 hba.size
    clear hba
    obtain ⟨g8, hg8⟩ : ∃ g, w7.heap.size = g := ⟨_, rfl⟩
    generalize w7.alloc (.cells #[.int .i64 0, .string ⟨#[]⟩, .string ⟨#[]⟩, .int .i64 0, .int .i64 0] 23) = w8 at H8 HP8 hs8 ⊢
    rw [hg8]
    clear H7 HP7 hs7 hg8
    have HA8 := Lib.hid (show ∀ ob : Obj, Below w8.heap.size w8 (w8.alloc ob) from fun ob => (Below.refl w8.heap.size w8).alloc (Nat.le_refl _) _)
    have HE := Lib.hid (show OB (w8.alloc (.cells #[] 5)) w8.heap.size 5 (some ⟨w8.heap.size, 0, none⟩) 0 [] from OB.new 5 [] (Nat.le_refl _) (by decide))
    go_wp2_with (first
      | (at_builtin; refine wpList_wanted (by kernel_rfl) (fun K hK => ?_); refine op_app (.tmp 61) (.tmp 62) 24 5 rfl Tryd.underlying24 byInfo w8.heap.size [] _ 0 0 rfl rfl HE.out P ⟨gp, 0, none⟩ L c2 _ rfl HPL.out (HP8.out.below (HA8.out _) hs8) (by have := HPL.out; simp only [List.length_nil]; omega) (HA8.out _).size ?_; intro A4 c4 w9 ho4 hg4 hb9; refine hK _ _ ?_; rw [show (([] : List UInt8) ++ P).length = L from HPL.out]; clear hK)
      | (at_builtin; refine wpList_wanted (by kernel_rfl) (fun K hK => ?_); refine op_app (.tmp 63) (.tmp 65) 24 5 rfl Tryd.underlying24 byInfo w8.heap.size P A4 L c4 rfl HPL.out (OB.alloc ho4 _) [UInt8.ofNat mo] _ 1 _ _ rfl rfl (Rb.one (w := w9) (c := UInt8.ofNat mo) rfl HMO.out) (by have := HPL.out; simp only [List.length_singleton]; omega) (by have := hb9.size; have := (HA8.out (.cells #[] 5)).size; simp only [World.size_alloc] at *; omega) ?_; intro A5 c5 w10 ho5 hg5 hb10; refine hK _ _ ?_; rw [show (P ++ [UInt8.ofNat mo]).length = L + 1 by rw [List.length_append, HPL.out]; rfl]; clear hK))
    have HB9 := Lib.hid (show Below w8.heap.size w8 w9 from (HA8.out _).trans hb9)
    have HB10 := Lib.hid (show Below w8.heap.size w8 w10 from (HB9.out.alloc HB9.out.size _).trans hb10)
    have H10 := Lib.hid (H8.out.on HB10.out)
    have hc5 := ho5.cap
    rw [show (P ++ [UInt8.ofNat mo]).length = L + 1 by rw [List.length_append, HPL.out]; rfl] at hc5
    have hcall := wget_ok A5 (P ++ [UInt8.ofNat mo]) (L + 1) c5 w10 H10.out.glob ho5.rb (by rw [List.length_append, HPL.out]; simp only [List.length_singleton]; omega) (by rw [List.length_append, HPL.out]; rfl) hc5.1 hc5.2
    rw [HG3.out, getE_none] at hcall
    refine hcall.mono ?_
    rintro e w11 ⟨rfl, hb11⟩
    have H11 := Lib.hid (H10.out.on hb11)
    clear hcall ho4 hg4 hb9 ho5 hg5 hb10 hc5 HB9 HB10 H10 HE HA8 H8 HP8 hs8 HG3 hb11
    go_upto_region 11 with (fail)
    have H12 := Lib.hid (show Bq W [(g6, ⟨k, a, b, n0, m⟩), (W.heap.size, ⟨k, a, b, n0, m⟩)] (w11.alloc (.cells #[.int .i64 0, .string ⟨#[]⟩, .string ⟨#[]⟩, .int .i64 0, .int .i64 0] 23)) from H11.out.on ((Below.refl w11.heap.size w11).alloc (Nat.le_refl _) _))
    obtain ⟨g12, hg12⟩ : ∃ g, w11.heap.size = g := ⟨_, rfl⟩
    generalize w11.alloc (.cells #[.int .i64 0, .string ⟨#[]⟩, .string ⟨#[]⟩, .int .i64 0, .int .i64 0] 23) = w12 at H12 ⊢
    rw [hg12]
    clear H11 hg12 HPL HMO hl1 hl2 hl3
    have cs := H12.out.c W.heap.size (.tail _ (.head _))
    have cg := H12.out.c g6 (.head _)
    have HSM := Lib.hid (eqM_same ⟨k, a, b, n0, m⟩)
    obtain ⟨yk, yn, ym, ya, yb, is, his, hyes, hno, hE⟩ := getE_any (getW l)
    have hget := wget_ok A l n c w12 H12.out.glob ((HRB.out.below H12.out.b (Nat.le_refl _)).more H12.out.b.size) (by have := HL.out; omega) HL.out hcn (by omega)
    rw [hE] at hget
    have HGET := Lib.hid hget
    have HYES := Lib.hid (show is = true → rightM ⟨yk, ya, yb, yn, ym⟩ = true ∧ putW ⟨yk, ya, yb, yn, ym⟩ = l from fun h => getW_is l _ (hyes h))
    have HNO := Lib.hid hno
    clear hget hE hyes hno his
    go_wp2_with (refine wpList_nem (by kernel_rfl) (.tmp 73) (.tmp 74) _ rfl ⟨k, a, b, n0, m⟩ ⟨k, a, b, n0, m⟩ rfl rfl ?_; rw [HSM.out])
    clear cs cg HSM
    refine HGET.out.mono ?_
    rintro e v1 ⟨rfl, hb⟩
    have K1 := Lib.hid (H12.out.on hb)
    clear hb HGET H12
    go_upto_region 14 with (fail)
    have K2 := Lib.hid (show Bq W [(v1.heap.size, ⟨yk, ya, yb, yn, ym⟩), (g6, ⟨k, a, b, n0, m⟩), (W.heap.size, ⟨k, a, b, n0, m⟩)] (v1.alloc (.cells #[.int .i64 yk, .string ya, .string yb, .int .i64 yn, .int .i64 ym] 23)) from K1.out.new _)
    obtain ⟨gy, hgy⟩ : ∃ g, v1.heap.size = g := ⟨_, rfl⟩
    generalize v1.alloc (.cells #[.int .i64 yk, .string ya, .string yb, .int .i64 yn, .int .i64 ym] 23) = v2 at K2 ⊢
    rw [hgy] at K2 ⊢
    clear K1 hgy
    cases is with
    | false =>
      obtain ⟨_, rfl, rfl, rfl, rfl, rfl⟩ := HNO.out rfl
      have cy := K2.out.c gy (.head _)
      have HB := K2.out.b
      simp only [bs] at cy
      have HSZ := Lib.hid (eqM_same (zeroM 0))
      go_wp2_with (refine wpList_eqm (by kernel_rfl) (.tmp 92) (.tmp 93) _ rfl (zeroM 0) (zeroM 0) rfl rfl ?_; rw [HSZ.out])
      go_ret
      exact ⟨rfl, HB⟩
    | true =>
      obtain ⟨hy1, hy2⟩ := HYES.out rfl
      obtain ⟨_, _, hya, hyb, _⟩ := right_parts _ hy1
      have HRY := Lib.hid (fun u (h : Gw u) => right_ok ⟨yk, ya, yb, yn, ym⟩ u h (Nat.le_trans hya (by decide)) (Nat.le_trans hyb (by decide)))
      have HPY := Lib.hid (fun u (h : Gw u) => wput_ok ⟨yk, ya, yb, yn, ym⟩ u h (Nat.le_trans hya (by decide)) (Nat.le_trans hyb (by decide)))
      rw [hy1] at HRY
      rw [hy2, HL.out] at HPY
      clear hy1 hy2 hya hyb HYES HNO
      go_upto_region 16 with (fail)
      have K3 := Lib.hid K2.out.draw
      clear K2
      try simp only [List.cons_append, List.nil_append]
      refine wp_region_held_drew (S := fun u => Bq W [(gy, ⟨yk, ya, yb, yn, ym⟩), (g6, ⟨k, a, b, n0, m⟩), (W.heap.size, ⟨k, a, b, n0, m⟩)] u) (by kernel_rfl) (K3.out) (fun hHeld => ?_)
      refine take_at (some 96) (i := 0) (v := ?_) rfl rfl (by kernel_rfl) (by kernel_rfl) (by kernel_rfl) (fun _ _ _ h => h) (Or.inl ⟨by kernel_rfl, ?_⟩) hHeld ?_
      rotate_left
      · intro wz hSw; go_simp; try (with_reducible rfl)
      try simp only [Act.put, List.setIfInBounds_toArray, List.set_cons_zero, List.set_cons_succ, List.getElem_toArray, List.getElem_cons_succ, List.getElem_cons_zero]
      refine take_at (some 97) (i := 1) (v := ?_) rfl rfl (by kernel_rfl) (by kernel_rfl) (by kernel_rfl) (fun _ _ _ h => h) (Or.inl ⟨by kernel_rfl, ?_⟩) hHeld ?_
      rotate_left
      · intro wz hSw; go_simp; try (with_reducible rfl)
      try simp only [Act.put, List.setIfInBounds_toArray, List.set_cons_zero, List.set_cons_succ, List.getElem_toArray, List.getElem_cons_succ, List.getElem_cons_zero]
      refine take_at (some 98) (i := 2) rfl rfl (by kernel_rfl) (by kernel_rfl) (by kernel_rfl) (fun _ _ _ h => h) (yieldsIf_load_row (by kernel_rfl) 23 (.tmp 17) rfl gy rfl 23 _ (fun w h => h.row _ (.head _)) Tryd.underlying23 rfl (by kernel_rfl)) hHeld ?_
      try simp only [Act.put, List.setIfInBounds_toArray, List.set_cons_zero, List.set_cons_succ, List.getElem_toArray, List.getElem_cons_succ, List.getElem_cons_zero]
      refine wpAnyH_ready (rs := [3]) (by kernel_rfl) (by simp) (AllReadyH.cons rfl (fun K hK => ?_) AllReadyH.nil)
      rw [if_pos (by kernel_rfl)]
      go_simp
      refine (HRY.out _ hHeld.glob).mono ?_
      rintro e u3 ⟨rfl, hbu⟩
      try dsimp only
      refine hK.out _ _ (hHeld.on hbu) (fun hHeld => ?_)
      try simp only [Act.put, List.setIfInBounds_toArray, List.set_cons_zero, List.set_cons_succ, List.getElem_toArray, List.getElem_cons_succ, List.getElem_cons_zero]
      clear hbu
      refine take_at (some 100) (i := 4) (v := ?_) rfl rfl (by kernel_rfl) (by kernel_rfl) (by kernel_rfl) (fun _ _ _ h => h) (Or.inl ⟨by kernel_rfl, ?_⟩) hHeld ?_
      rotate_left
      · intro wz hSw; go_simp; try (with_reducible rfl)
      try simp only [Act.put, List.setIfInBounds_toArray, List.set_cons_zero, List.set_cons_succ, List.getElem_toArray, List.getElem_cons_succ, List.getElem_cons_zero]
      refine take_at (some 101) (i := 5) (v := ?_) rfl rfl (by kernel_rfl) (by kernel_rfl) (by kernel_rfl) (fun _ _ _ h => h) (Or.inl ⟨by kernel_rfl, ?_⟩) hHeld ?_
      rotate_left
      · intro wz hSw; go_simp; try (with_reducible rfl)
      try simp only [Act.put, List.setIfInBounds_toArray, List.set_cons_zero, List.set_cons_succ, List.getElem_toArray, List.getElem_cons_succ, List.getElem_cons_zero]
      refine take_at (some 102) (i := 6) rfl rfl (by kernel_rfl) (by kernel_rfl) (by kernel_rfl) (fun _ _ _ h => h) (yieldsIf_load_row (by kernel_rfl) 23 (.tmp 17) rfl gy rfl 23 _ (fun w h => h.row _ (.head _)) Tryd.underlying23 rfl (by kernel_rfl)) hHeld ?_
      try simp only [Act.put, List.setIfInBounds_toArray, List.set_cons_zero, List.set_cons_succ, List.getElem_toArray, List.getElem_cons_succ, List.getElem_cons_zero]
      refine take_at (some 105) (i := 9) (v := ?_) rfl rfl (by kernel_rfl) (by kernel_rfl) (by kernel_rfl) (fun _ _ _ h => h) (Or.inl ⟨by kernel_rfl, ?_⟩) hHeld ?_
      rotate_left
      · intro wz hSw; go_simp; try (with_reducible rfl)
      try simp only [Act.put, List.setIfInBounds_toArray, List.set_cons_zero, List.set_cons_succ, List.getElem_toArray, List.getElem_cons_succ, List.getElem_cons_zero]
      refine take_at (some 106) (i := 10) rfl rfl (by kernel_rfl) (by kernel_rfl) (by kernel_rfl) (fun _ _ _ h => h) (yieldsIf_conv (by kernel_rfl) 24 5 9 (.tmp 105) rfl A n c l rfl HL.out (fun w h => HRB.out.below h.b (Nat.le_refl _)) Tryd.underlying24 Tryd.underlying5 Tryd.underlying9) hHeld ?_
      try simp only [Act.put, List.setIfInBounds_toArray, List.set_cons_zero, List.set_cons_succ, List.getElem_toArray, List.getElem_cons_succ, List.getElem_cons_zero]
      refine wpAnyH_ready (rs := [7]) (by kernel_rfl) (by simp) (AllReadyH.cons rfl (fun K hK => ?_) AllReadyH.nil)
      rw [if_pos (by kernel_rfl)]
      go_simp
      refine (HPY.out _ hHeld.glob).mono ?_
      rintro e u4 ⟨A4, c4, rfl, ho4, hbu⟩
      try dsimp only
      refine hK.out _ _ (hHeld.on hbu) (fun hHeld => ?_)
      try simp only [Act.put, List.setIfInBounds_toArray, List.set_cons_zero, List.set_cons_succ, List.getElem_toArray, List.getElem_cons_succ, List.getElem_cons_zero]
      have hrb4 := ho4.rb
      refine wpAnyH_mono (S' := fun u => Bq W [(gy, ⟨yk, ya, yb, yn, ym⟩), (g6, ⟨k, a, b, n0, m⟩), (W.heap.size, ⟨k, a, b, n0, m⟩)] u ∧ Rb u u4.heap.size A4 l) (fun _ h => h.1) _ _ _ _ ?_
      have hHeld := And.intro hHeld hrb4
      clear ho4 hbu
      refine take_at (some 104) (i := 8) rfl rfl (by kernel_rfl) (by kernel_rfl) (by kernel_rfl) (fun _ _ _ h => h) (yieldsIf_conv (by kernel_rfl) 24 5 9 (.tmp 103) rfl A4 n c4 l rfl HL.out (fun w h => h.2) Tryd.underlying24 Tryd.underlying5 Tryd.underlying9) hHeld ?_
      try simp only [Act.put, List.setIfInBounds_toArray, List.set_cons_zero, List.set_cons_succ, List.getElem_toArray, List.getElem_cons_succ, List.getElem_cons_zero]
      refine take_at (some 107) (i := 11) (v := ?_) rfl rfl (by kernel_rfl) (by kernel_rfl) (by kernel_rfl) (fun _ _ _ h => h) (Or.inl ⟨by kernel_rfl, ?_⟩) hHeld ?_
      rotate_left
      · intro wz hSw; go_simp; try (with_reducible rfl)
      try simp only [Act.put, List.setIfInBounds_toArray, List.set_cons_zero, List.set_cons_succ, List.getElem_toArray, List.getElem_cons_succ, List.getElem_cons_zero]
      refine take_at (some 108) (i := 12) (v := ?_) rfl rfl (by kernel_rfl) (by kernel_rfl) (by kernel_rfl) (fun _ _ _ h => h) (Or.inl ⟨by kernel_rfl, ?_⟩) hHeld ?_
      rotate_left
      · intro wz hSw; go_simp; try (with_reducible rfl)
      try simp only [Act.put, List.setIfInBounds_toArray, List.set_cons_zero, List.set_cons_succ, List.getElem_toArray, List.getElem_cons_succ, List.getElem_cons_zero]
      refine take_at (some 8) (i := 13) (v := ?_) rfl rfl (by kernel_rfl) (by kernel_rfl) (by kernel_rfl) (fun _ _ _ h => h) (Or.inl ⟨by kernel_rfl, ?_⟩) hHeld ?_
      rotate_left
      · intro wz hSw; go_simp; try (with_reducible rfl)
      try simp only [Act.put, List.setIfInBounds_toArray, List.set_cons_zero, List.set_cons_succ, List.getElem_toArray, List.getElem_cons_succ, List.getElem_cons_zero]
      refine wpAnyH_done (by kernel_rfl) ?_ _
      have HB := Lib.hid hHeld.1.b
      clear hK hHeld
      go_wp2
      go_ret
      exact ⟨rfl, HB.out⟩
end Go.Proofs.YtimhjmeebahdaaaDoor
