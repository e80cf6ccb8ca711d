/- The walk of RingPlays. (Written by gen_rgplays.py.) -/
import Derived.Test.YtiomfinimbogaaaRgTwo
import Derived.Test.YtiomfinimbogaaaRgRef
namespace Go.Proofs.Ytiomfinimbogaaa
set_option linter.unusedVariables false
set_option linter.unusedSimpArgs false
open Go.RowKit

/-- A ring of the law's own, and behind it the document's, of the same bytes. -/
structure Pl (W u : World) (r g s m : Nat) (q : List UInt8) (A : Option Addr) (c : Nat) : Prop where
  a : Rw W u r g m q
  b : Rs u s m q A c
  lt : r < s ∧ g < s
theorem Pl.ke {W u u' : World} {r g s m : Nat} {q : List UInt8} {A : Option Addr} {c : Nat} (h : Pl W u r g s m q A c) (k : Ke [] u u') : Pl W u' r g s m q A c := ⟨h.a.ke k, h.b.ke k (by simp), h.lt⟩
theorem Pl.lo {W u : World} {r g s m : Nat} {q : List UInt8} {A : Option Addr} {c : Nat} (h : Pl W u r g s m q A c) : W.heap.size ≤ s := by have := h.a.lr; have := h.lt; omega
/-- Some memory of the document's ring. -/
def PlE (W u : World) (r g s m : Nat) (q : List UInt8) : Prop := ∃ A c, Pl W u r g s m q A c

set_option maxRecDepth 100000 in
set_option maxHeartbeats 16000000 in
theorem walk_RingPlays (x0 : Int) (A : Option Addr) (L : List OpM) (n c : Nat) (W : World) (wx : (Lit.int .i64 x0).wf = true) (w1 : InO W A L n c) :
    Calls Try.prog 3 #[.int .i64 x0, .slice A n c] W fun e w' => e = .returned (.bool true) ∧ Below W.heap.size W w' := by
  obtain ⟨M, hM⟩ : ∃ M, mostM x0 = M := ⟨_, rfl⟩
  have hM6 : M ≤ 65536 := by unfold mostM at hM; omega
  have hcn := w1.cap
  have hmx := w1.max
  unfold maxLen at hmx
  have hnx : n ≤ 9223372036854775807 := by omega
  have HO := Lib.hid w1
  have HNEW := Lib.hid (show ∀ u, Below W.heap.size W u → Calls Try.prog 10 #[.int .i64 x0] u fun e u' => ∃ r g, e = .returned (.pointer (some ⟨r, 0, none⟩)) ∧ Rw W u' r g M [] from fun u hu => (new_at x0 u).mono fun e u' ⟨r, g, h1, h2, h3, h4, h5⟩ =>
    ⟨r, g, h1, hM ▸ h2, Below.ke hu h3 (Nat.le_refl _) (by simp), Nat.le_trans hu.size h4, Nat.le_trans hu.size h5⟩)
  have HREF := Lib.hid (show ∀ u r g, Rw W u r g M [] → Calls Try.prog 11 #[.int .i64 x0] u fun e u' => e = .returned (.pointer (some ⟨u.heap.size, 0, none⟩)) ∧ PlE W u' r g u.heap.size M [] from fun u r g h => (rnew_ok x0 u).mono fun e u' ⟨h1, h2, h3⟩ =>
    ⟨h1, none, 0, h.ke h3, hM ▸ h2, h.rg.lt⟩)
  clear wx w1 hM
  go_enter Try.func3, Try.ntmps3
  go_upto_region 2 with (go_at_call 9; refine (rhead_ok _).mono ?_; rintro e u1 ⟨rfl, hk1⟩)
  have B1 := Lib.hid (Below.ke (Below.refl _ W) hk1 (Nat.le_refl _) (by simp))
  clear hk1
  go_upto_region 3 with (go_at_call 10; refine (HNEW.out _ B1.out).mono ?_; rintro e u2 ⟨r, g, rfl, h1⟩)
  have R2 := Lib.hid h1
  clear h1 B1 HNEW
  go_upto_region 4 with (go_at_call 11; refine (HREF.out _ _ _ R2.out).mono ?_; rintro e u3 ⟨rfl, h1⟩)
  obtain ⟨s, hs⟩ : ∃ s, u2.heap.size = s := ⟨_, rfl⟩
  rw [hs] at h1 ⊢
  have R3 := Lib.hid h1
  clear h1 hs R2 HREF
  have hb3 : Below W.heap.size W u3 := by obtain ⟨_, _, h⟩ := R3.out; exact h.a.b
  have HG := Lib.hid (ogreat_ok A L n c W.heap.size u3 (HO.out.ro.below hb3 (Nat.le_refl _)) HO.out.len (by omega))
  have HB3 := Lib.hid hb3
  clear hb3
  go_wp2_with (go_at_call 12; refine HG.out.mono ?_; rintro e uu ⟨⟨v, rfl, hv⟩, rfl⟩; cases v)
  all_goals try (go_ret; exact ⟨rfl, HB3.out⟩)
  clear HG hv HB3
  go_loopw [8] (fun v8 wr => ∃ (i : Nat) (q : List UInt8), i ≤ n ∧ v8 = .int .i64 (i : Int) ∧ Hid (PlE W wr r g s M q)) (fun v8 _ => n - (intOf v8).toNat)
  case atStart => exact ⟨0, [], by omega, rfl, R3⟩
  case round =>
    obtain ⟨i, q, hi, rfl, HWE⟩ := hrel
    clear R3
    obtain ⟨A1, c1', hw1⟩ := HWE.out
    have HW := Lib.hid hw1
    have hfit := hw1.a.rg.fit
    clear hw1 HWE
    obtain ⟨k, hk⟩ : ∃ k, q.length = k := ⟨_, rfl⟩
    rw [hk] at hfit
    have HK := Lib.hid hk
    clear hk
    by_cases hi1 : i < n
    · have hi2 : (i : Int) < (n : Int) := by omega
      obtain ⟨b, o, m, rfl, _, hop⟩ := HO.out.at_ i hi1
      have HOP := Lib.hid hop
      clear hop hcn
      obtain ⟨z, hz⟩ : ∃ z, M - k = z := ⟨_, rfl⟩
      obtain ⟨n1, hn1⟩ : ∃ n1, m.l.length = n1 := ⟨_, rfl⟩
      have HM := Lib.hid (show M - q.length = z ∧ m.l.length = n1 ∧ M - k = z from ⟨by rw [HK.out]; exact hz, hn1, hz⟩)
      clear hz hn1
      obtain ⟨c0, c1, c2⟩ := (HOP.out _ HW.out.a.b).1
      rw [HM.out.2.1] at c1
      by_cases hw : m.what = 2
      · rw [hw] at c0
        obtain ⟨x, hx⟩ : ∃ x, m.x = x := ⟨_, rfl⟩
        obtain ⟨t, ht⟩ : ∃ t, takeM x k = t := ⟨_, rfl⟩
        have htk : t ≤ k := ht ▸ takeM_le _ _
        rw [hx] at c2
        obtain ⟨T, hT⟩ : ∃ T, q.take t = T := ⟨_, rfl⟩
        obtain ⟨D, hD⟩ : ∃ D, q.drop t = D := ⟨_, rfl⟩
        obtain ⟨d, hd⟩ : ∃ d, k - t = d := ⟨_, rfl⟩
        have hdM : d ≤ M := by omega
        have HT := Lib.hid (show takeM x k = t ∧ T.length = t ∧ q.take t = T ∧ q.drop t = D ∧ m.x = x ∧ D.length = d from ⟨ht, by rw [← hT, List.length_take, HK.out]; omega, hT, hD, hx, by rw [← hD, List.length_drop, HK.out]; exact hd⟩)
        have hxx : ((bs T).toList == (bs T).toList) = true := beq_self_eq_true _
        clear ht hT hD hw c1 hx hd
        go_upto_region 11 with (go_at_call 13; refine (w_take HW.out.a x k t HK.out HT.out.1).mono ?_; rintro e u4 ⟨rfl, hb4, k4, h4⟩)
        rw [HT.out.2.2.1] at hb4
        rw [HT.out.2.2.2.1] at h4
        have hlt4 := HW.out.b.bk.lt
        obtain ⟨s4, hs4⟩ : ∃ s4, wr.heap.size = s4 := ⟨_, rfl⟩
        rw [hs4] at hb4 hlt4 ⊢
        have H4 := Lib.hid (show Rw W u4 r g M D ∧ Rs u4 s M q A1 c1' ∧ Rf u4 [s] (some ⟨s4, 0, none⟩) T from ⟨h4, HW.out.b.ke k4 (by simp; exact HW.out.lt.1), Rf.bk hb4 (by simp; omega)⟩)
        have HLT := Lib.hid (show r < s ∧ g < s ∧ W.heap.size ≤ s from ⟨HW.out.lt.1, HW.out.lt.2, HW.out.lo⟩)
        obtain ⟨_, _, c2⟩ := (HOP.out _ h4.b).1
        rw [HT.out.2.2.2.2.1] at c2
        clear hb4 k4 h4 hlt4 hs4 HW
        go_upto_region 12 with (go_at_call 14; refine (rtake_ok s M x q A1 c1' _ H4.out.2.1 k t HK.out HT.out.1).mono ?_; rintro e u5 ⟨A5, c5, A6, c6, rfl, hb5, h5, k5⟩)
        rw [HT.out.2.2.1] at hb5
        rw [HT.out.2.2.2.1] at h5
        have hb5' : Below W.heap.size W u5 := Below.ke H4.out.1.b k5 (Nat.le_refl _) (by have := HLT.out; simp; omega)
        have HW := Lib.hid (show Pl W u5 r g s M D A6 c6 from ⟨H4.out.1.keep k5 (by have := HLT.out; simp; omega) (by have := HLT.out; simp; omega) hb5', h5, HLT.out.1, HLT.out.2.1⟩)
        have H5 := Lib.hid (show Rb u5 u5.heap.size (some ⟨s4, 0, none⟩) T ∧ Rb u5 u5.heap.size A5 T from ⟨(H4.out.2.2.ke k5 (by simp)).rb, hb5⟩)
        have HK2 := Lib.hid HT.out.2.2.2.2.2
        clear hb5 h5 k5 hb5' H4
        go_upto_region 18 with (first
          | (refine wpList_conv (by kernel_rfl) 29 5 9 (.tmp 55) rfl _ t t T rfl HT.out.2.1 H5.out.1 Try.underlying29 Try.underlying5 Try.underlying9 ?_)
          | (refine wpList_conv (by kernel_rfl) 29 5 9 (.tmp 57) rfl _ t c5 T rfl HT.out.2.1 H5.out.2 Try.underlying29 Try.underlying5 Try.underlying9 ?_))
        clear H5 hxx
        have H6 := Lib.hid (HW.out.ke (Ke.refl _ _).drew)
        have HSS := Lib.hid (show ∀ v, Pl W v r g s M D A6 c6 → v.cell? ⟨s, 0, none⟩ = some (.slice A6 d c6) ∧ v.cell? ⟨s, 1, none⟩ = some (.int .i64 (M : Int)) ∧ Rb v v.heap.size A6 D from fun v hv => by
          obtain ⟨e1, e2, _⟩ := ref_cells hv.b.bk
          rw [HK2.out] at e1
          exact ⟨e1, e2, hv.b.rd.rb⟩)
        obtain ⟨dz, hdz⟩ : ∃ dz, M - d = dz := ⟨_, rfl⟩
        obtain ⟨z1, z2⟩ := iwrap ((M : Int) - (d : Int)) dz (by omega) (by omega)
        have HDZ := Lib.hid (show M - D.length = dz by rw [HK2.out]; exact hdz)
        have hxx : ((bs D).toList == (bs D).toList) = true := beq_self_eq_true _
        clear hdz
        try simp only [List.cons_append, List.nil_append]
        refine wp_region_held_drew (S := fun v => v.cell? ⟨s, 0, none⟩ = some (.slice A6 d c6) ∧ v.cell? ⟨s, 1, none⟩ = some (.int .i64 (M : Int)) ∧ Rb v v.heap.size A6 D) (by kernel_rfl) (HSS.out _ H6.out) (fun hHeld => ?_)
        clear HW
        generalize u5.drew = w6 at H6 hHeld ⊢
        refine take_at (some 77) (i := 0) (v := ?_) rfl rfl (by kernel_rfl) (by kernel_rfl) (by kernel_rfl) (fun _ _ _ h => h) (Or.inl ⟨by kernel_rfl, ?_⟩) hHeld ?_
        rotate_left
        · intro wz hSw; obtain ⟨k0, k1, _⟩ := hSw; go_simp; try (with_reducible rfl)
        try simp only [Act.put, List.setIfInBounds_toArray, List.set_cons_zero, List.set_cons_succ, List.getElem_toArray, List.getElem_cons_succ, List.getElem_cons_zero]
        refine take_at (some 79) (i := 2) (v := ?_) rfl rfl (by kernel_rfl) (by kernel_rfl) (by kernel_rfl) (fun _ _ _ h => h) (Or.inl ⟨by kernel_rfl, ?_⟩) hHeld ?_
        rotate_left
        · intro wz hSw; obtain ⟨k0, k1, _⟩ := hSw; go_simp; try (with_reducible rfl)
        try simp only [Act.put, List.setIfInBounds_toArray, List.set_cons_zero, List.set_cons_succ, List.getElem_toArray, List.getElem_cons_succ, List.getElem_cons_zero]
        refine take_at (some 80) (i := 3) (v := ?_) rfl rfl (by kernel_rfl) (by kernel_rfl) (by kernel_rfl) (fun _ _ _ h => h) (Or.inl ⟨by kernel_rfl, ?_⟩) hHeld ?_
        rotate_left
        · intro wz hSw; obtain ⟨k0, k1, _⟩ := hSw; go_simp; try (with_reducible rfl)
        try simp only [Act.put, List.setIfInBounds_toArray, List.set_cons_zero, List.set_cons_succ, List.getElem_toArray, List.getElem_cons_succ, List.getElem_cons_zero]
        refine take_at (some 81) (i := 4) (v := ?_) rfl rfl (by kernel_rfl) (by kernel_rfl) (by kernel_rfl) (fun _ _ _ h => h) (Or.inl ⟨by kernel_rfl, ?_⟩) hHeld ?_
        rotate_left
        · intro wz hSw; obtain ⟨k0, k1, _⟩ := hSw; go_simp; try (with_reducible rfl)
        try simp only [Act.put, List.setIfInBounds_toArray, List.set_cons_zero, List.set_cons_succ, List.getElem_toArray, List.getElem_cons_succ, List.getElem_cons_zero]
        refine take_at (some 82) (i := 5) (v := ?_) rfl rfl (by kernel_rfl) (by kernel_rfl) (by kernel_rfl) (fun _ _ _ h => h) (Or.inl ⟨by kernel_rfl, ?_⟩) hHeld ?_
        rotate_left
        · intro wz hSw; obtain ⟨k0, k1, _⟩ := hSw; go_simp; try (with_reducible rfl)
        try simp only [Act.put, List.setIfInBounds_toArray, List.set_cons_zero, List.set_cons_succ, List.getElem_toArray, List.getElem_cons_succ, List.getElem_cons_zero]
        refine take_at (some 83) (i := 6) (v := ?_) rfl rfl (by kernel_rfl) (by kernel_rfl) (by kernel_rfl) (fun _ _ _ h => h) (Or.inl ⟨by kernel_rfl, ?_⟩) hHeld ?_
        rotate_left
        · intro wz hSw; obtain ⟨k0, k1, _⟩ := hSw; go_simp; try (with_reducible rfl)
        try simp only [Act.put, List.setIfInBounds_toArray, List.set_cons_zero, List.set_cons_succ, List.getElem_toArray, List.getElem_cons_succ, List.getElem_cons_zero]
        refine wpAnyH_ready (rs := [1]) (by kernel_rfl) (by simp) (AllReadyH.cons rfl (fun K hK => ?_) AllReadyH.nil)
        rw [if_pos (by kernel_rfl)]
        go_simp
        refine (w_many H6.out.a d HK2.out).mono ?_
        rintro e w7 ⟨rfl, rfl⟩
        try dsimp only
        refine hK.out _ _ (hHeld) (fun hHeld => ?_)
        try simp only [Act.put, List.setIfInBounds_toArray, List.set_cons_zero, List.set_cons_succ, List.getElem_toArray, List.getElem_cons_succ, List.getElem_cons_zero]
        refine take_at (some 84) (i := 7) (v := ?_) rfl rfl (by kernel_rfl) (by kernel_rfl) (by kernel_rfl) (fun _ _ _ h => h) (Or.inl ⟨by kernel_rfl, ?_⟩) hHeld ?_
        rotate_left
        · intro wz hSw; obtain ⟨k0, k1, _⟩ := hSw; go_simp; try (with_reducible rfl)
        try simp only [Act.put, List.setIfInBounds_toArray, List.set_cons_zero, List.set_cons_succ, List.getElem_toArray, List.getElem_cons_succ, List.getElem_cons_zero]
        refine take_at (some 85) (i := 8) (v := ?_) rfl rfl (by kernel_rfl) (by kernel_rfl) (by kernel_rfl) (fun _ _ _ h => h) (Or.inl ⟨by kernel_rfl, ?_⟩) hHeld ?_
        rotate_left
        · intro wz hSw; obtain ⟨k0, k1, _⟩ := hSw; go_simp; try (with_reducible rfl)
        try simp only [Act.put, List.setIfInBounds_toArray, List.set_cons_zero, List.set_cons_succ, List.getElem_toArray, List.getElem_cons_succ, List.getElem_cons_zero]
        refine take_at (some 86) (i := 9) (v := ?_) rfl rfl (by kernel_rfl) (by kernel_rfl) (by kernel_rfl) (fun _ _ _ h => h) (Or.inl ⟨by kernel_rfl, ?_⟩) hHeld ?_
        rotate_left
        · intro wz hSw; obtain ⟨k0, k1, _⟩ := hSw; go_simp; try (with_reducible rfl)
        try simp only [Act.put, List.setIfInBounds_toArray, List.set_cons_zero, List.set_cons_succ, List.getElem_toArray, List.getElem_cons_succ, List.getElem_cons_zero]
        refine take_at (some 88) (i := 11) (v := ?_) rfl rfl (by kernel_rfl) (by kernel_rfl) (by kernel_rfl) (fun _ _ _ h => h) (Or.inl ⟨by kernel_rfl, ?_⟩) hHeld ?_
        rotate_left
        · intro wz hSw; obtain ⟨k0, k1, _⟩ := hSw; go_simp; try (with_reducible rfl)
        try simp only [Act.put, List.setIfInBounds_toArray, List.set_cons_zero, List.set_cons_succ, List.getElem_toArray, List.getElem_cons_succ, List.getElem_cons_zero]
        refine take_at (some 89) (i := 12) (v := ?_) rfl rfl (by kernel_rfl) (by kernel_rfl) (by kernel_rfl) (fun _ _ _ h => h) (Or.inl ⟨by kernel_rfl, ?_⟩) hHeld ?_
        rotate_left
        · intro wz hSw; obtain ⟨k0, k1, _⟩ := hSw; go_simp; try (with_reducible rfl)
        try simp only [Act.put, List.setIfInBounds_toArray, List.set_cons_zero, List.set_cons_succ, List.getElem_toArray, List.getElem_cons_succ, List.getElem_cons_zero]
        refine take_at (some 90) (i := 13) (v := ?_) rfl rfl (by kernel_rfl) (by kernel_rfl) (by kernel_rfl) (fun _ _ _ h => h) (Or.inl ⟨by kernel_rfl, ?_⟩) hHeld ?_
        rotate_left
        · intro wz hSw; obtain ⟨k0, k1, _⟩ := hSw; go_simp; try (with_reducible rfl)
        try simp only [Act.put, List.setIfInBounds_toArray, List.set_cons_zero, List.set_cons_succ, List.getElem_toArray, List.getElem_cons_succ, List.getElem_cons_zero]
        refine take_at (some 91) (i := 14) (v := ?_) rfl rfl (by kernel_rfl) (by kernel_rfl) (by kernel_rfl) (fun _ _ _ h => h) (Or.inl ⟨by kernel_rfl, ?_⟩) hHeld ?_
        rotate_left
        · intro wz hSw; obtain ⟨k0, k1, _⟩ := hSw; go_simp; try (with_reducible rfl)
        try simp only [Act.put, List.setIfInBounds_toArray, List.set_cons_zero, List.set_cons_succ, List.getElem_toArray, List.getElem_cons_succ, List.getElem_cons_zero]
        refine take_at (some 92) (i := 15) (v := ?_) rfl rfl (by kernel_rfl) (by kernel_rfl) (by kernel_rfl) (fun _ _ _ h => h) (Or.inl ⟨by kernel_rfl, ?_⟩) hHeld ?_
        rotate_left
        · intro wz hSw; obtain ⟨k0, k1, _⟩ := hSw; go_simp; try (with_reducible rfl)
        try simp only [Act.put, List.setIfInBounds_toArray, List.set_cons_zero, List.set_cons_succ, List.getElem_toArray, List.getElem_cons_succ, List.getElem_cons_zero]
        refine take_at (some 93) (i := 16) (v := ?_) rfl rfl (by kernel_rfl) (by kernel_rfl) (by kernel_rfl) (fun _ _ _ h => h) (Or.inl ⟨by kernel_rfl, ?_⟩) hHeld ?_
        rotate_left
        · intro wz hSw; obtain ⟨k0, k1, _⟩ := hSw; go_simp; try (with_reducible rfl)
        try simp only [Act.put, List.setIfInBounds_toArray, List.set_cons_zero, List.set_cons_succ, List.getElem_toArray, List.getElem_cons_succ, List.getElem_cons_zero]
        refine take_at (some 94) (i := 17) (v := ?_) rfl rfl (by kernel_rfl) (by kernel_rfl) (by kernel_rfl) (fun _ _ _ h => h) (Or.inl ⟨by kernel_rfl, ?_⟩) hHeld ?_
        rotate_left
        · intro wz hSw; obtain ⟨k0, k1, _⟩ := hSw; go_simp; try (with_reducible rfl)
        try simp only [Act.put, List.setIfInBounds_toArray, List.set_cons_zero, List.set_cons_succ, List.getElem_toArray, List.getElem_cons_succ, List.getElem_cons_zero]
        refine take_at (some 95) (i := 18) (v := ?_) rfl rfl (by kernel_rfl) (by kernel_rfl) (by kernel_rfl) (fun _ _ _ h => h) (Or.inl ⟨by kernel_rfl, ?_⟩) hHeld ?_
        rotate_left
        · intro wz hSw; obtain ⟨k0, k1, _⟩ := hSw; go_simp; try (with_reducible rfl)
        try simp only [Act.put, List.setIfInBounds_toArray, List.set_cons_zero, List.set_cons_succ, List.getElem_toArray, List.getElem_cons_succ, List.getElem_cons_zero]
        refine take_at (some 96) (i := 19) (v := ?_) rfl rfl (by kernel_rfl) (by kernel_rfl) (by kernel_rfl) (fun _ _ _ h => h) (Or.inl ⟨by kernel_rfl, ?_⟩) hHeld ?_
        rotate_left
        · intro wz hSw; obtain ⟨k0, k1, _⟩ := hSw; go_simp; try (with_reducible rfl)
        try simp only [Act.put, List.setIfInBounds_toArray, List.set_cons_zero, List.set_cons_succ, List.getElem_toArray, List.getElem_cons_succ, List.getElem_cons_zero]
        refine take_at (some 97) (i := 20) (v := ?_) rfl rfl (by kernel_rfl) (by kernel_rfl) (by kernel_rfl) (fun _ _ _ h => h) (Or.inl ⟨by kernel_rfl, ?_⟩) hHeld ?_
        rotate_left
        · intro wz hSw; obtain ⟨k0, k1, _⟩ := hSw; go_simp; try (with_reducible rfl)
        try simp only [Act.put, List.setIfInBounds_toArray, List.set_cons_zero, List.set_cons_succ, List.getElem_toArray, List.getElem_cons_succ, List.getElem_cons_zero]
        refine wpAnyH_ready (rs := [10]) (by kernel_rfl) (by simp) (AllReadyH.cons rfl (fun K hK => ?_) AllReadyH.nil)
        rw [if_pos (by kernel_rfl)]
        go_simp
        refine (w_room H6.out.a dz HDZ.out).mono ?_
        rintro e w8 ⟨rfl, k8, _⟩
        try dsimp only
        have H8 := Lib.hid (H6.out.ke k8)
        clear k8
        refine hK.out _ _ (HSS.out _ H8.out) (fun hHeld => ?_)
        try simp only [Act.put, List.setIfInBounds_toArray, List.set_cons_zero, List.set_cons_succ, List.getElem_toArray, List.getElem_cons_succ, List.getElem_cons_zero]
        refine take_at (some 98) (i := 21) (v := ?_) rfl rfl (by kernel_rfl) (by kernel_rfl) (by kernel_rfl) (fun _ _ _ h => h) (Or.inl ⟨by kernel_rfl, ?_⟩) hHeld ?_
        rotate_left
        · intro wz hSw; obtain ⟨k0, k1, _⟩ := hSw; go_simp; try (with_reducible rfl)
        try simp only [Act.put, List.setIfInBounds_toArray, List.set_cons_zero, List.set_cons_succ, List.getElem_toArray, List.getElem_cons_succ, List.getElem_cons_zero]
        refine take_at (some 99) (i := 22) (v := ?_) rfl rfl (by kernel_rfl) (by kernel_rfl) (by kernel_rfl) (fun _ _ _ h => h) (Or.inl ⟨by kernel_rfl, ?_⟩) hHeld ?_
        rotate_left
        · intro wz hSw; obtain ⟨k0, k1, _⟩ := hSw; go_simp; try (with_reducible rfl)
        try simp only [Act.put, List.setIfInBounds_toArray, List.set_cons_zero, List.set_cons_succ, List.getElem_toArray, List.getElem_cons_succ, List.getElem_cons_zero]
        refine take_at (some 100) (i := 23) (v := ?_) rfl rfl (by kernel_rfl) (by kernel_rfl) (by kernel_rfl) (fun _ _ _ h => h) (Or.inl ⟨by kernel_rfl, ?_⟩) hHeld ?_
        rotate_left
        · intro wz hSw; obtain ⟨k0, k1, _⟩ := hSw; go_simp; try (with_reducible rfl)
        try simp only [Act.put, List.setIfInBounds_toArray, List.set_cons_zero, List.set_cons_succ, List.getElem_toArray, List.getElem_cons_succ, List.getElem_cons_zero]
        refine take_at (some 101) (i := 24) (v := ?_) rfl rfl (by kernel_rfl) (by kernel_rfl) (by kernel_rfl) (fun _ _ _ h => h) (Or.inl ⟨by kernel_rfl, ?_⟩) hHeld ?_
        rotate_left
        · intro wz hSw; obtain ⟨k0, k1, _⟩ := hSw; go_simp; try (with_reducible rfl)
        try simp only [Act.put, List.setIfInBounds_toArray, List.set_cons_zero, List.set_cons_succ, List.getElem_toArray, List.getElem_cons_succ, List.getElem_cons_zero]
        refine take_at (some 104) (i := 27) (v := ?_) rfl rfl (by kernel_rfl) (by kernel_rfl) (by kernel_rfl) (fun _ _ _ h => h) (Or.inl ⟨by kernel_rfl, ?_⟩) hHeld ?_
        rotate_left
        · intro wz hSw; obtain ⟨k0, k1, _⟩ := hSw; go_simp; try (with_reducible rfl)
        try simp only [Act.put, List.setIfInBounds_toArray, List.set_cons_zero, List.set_cons_succ, List.getElem_toArray, List.getElem_cons_succ, List.getElem_cons_zero]
        refine take_at (some 105) (i := 28) (v := ?_) rfl rfl (by kernel_rfl) (by kernel_rfl) (by kernel_rfl) (fun _ _ _ h => h) (Or.inl ⟨by kernel_rfl, ?_⟩) hHeld ?_
        rotate_left
        · intro wz hSw; obtain ⟨k0, k1, _⟩ := hSw; go_simp; try (with_reducible rfl)
        try simp only [Act.put, List.setIfInBounds_toArray, List.set_cons_zero, List.set_cons_succ, List.getElem_toArray, List.getElem_cons_succ, List.getElem_cons_zero]
        refine take_at (some 106) (i := 29) (v := ?_) rfl rfl (by kernel_rfl) (by kernel_rfl) (by kernel_rfl) (fun _ _ _ h => h) (Or.inl ⟨by kernel_rfl, ?_⟩) hHeld ?_
        rotate_left
        · intro wz hSw; obtain ⟨k0, k1, _⟩ := hSw; go_simp; try (with_reducible rfl)
        try simp only [Act.put, List.setIfInBounds_toArray, List.set_cons_zero, List.set_cons_succ, List.getElem_toArray, List.getElem_cons_succ, List.getElem_cons_zero]
        refine take_at (some 107) (i := 30) (v := ?_) rfl rfl (by kernel_rfl) (by kernel_rfl) (by kernel_rfl) (fun _ _ _ h => h) (Or.inl ⟨by kernel_rfl, ?_⟩) hHeld ?_
        rotate_left
        · intro wz hSw; obtain ⟨k0, k1, _⟩ := hSw; go_simp; try (with_reducible rfl)
        try simp only [Act.put, List.setIfInBounds_toArray, List.set_cons_zero, List.set_cons_succ, List.getElem_toArray, List.getElem_cons_succ, List.getElem_cons_zero]
        refine take_at (some 108) (i := 31) rfl rfl (by kernel_rfl) (by kernel_rfl) (by kernel_rfl) (fun _ _ _ h => h) (yieldsIf_conv (by kernel_rfl) 29 5 9 (.tmp 107) rfl A6 d c6 D rfl HK2.out (fun w h => h.2.2) Try.underlying29 Try.underlying5 Try.underlying9) hHeld ?_
        try simp only [Act.put, List.setIfInBounds_toArray, List.set_cons_zero, List.set_cons_succ, List.getElem_toArray, List.getElem_cons_succ, List.getElem_cons_zero]
        refine wpAnyH_ready (rs := [25]) (by kernel_rfl) (by simp) (AllReadyH.cons rfl (fun K hK => ?_) AllReadyH.nil)
        rw [if_pos (by kernel_rfl)]
        go_simp
        refine (w_look H8.out.a d HK2.out).mono ?_
        rintro e w9 ⟨rfl, hb9, k9, _⟩
        try dsimp only
        have H9 := Lib.hid (H8.out.ke k9)
        generalize hs9 : w8.heap.size = s9 at *
        have HB9 := Lib.hid hb9
        refine hK.out _ _ (HSS.out _ H9.out) (fun hHeld => ?_)
        try simp only [Act.put, List.setIfInBounds_toArray, List.set_cons_zero, List.set_cons_succ, List.getElem_toArray, List.getElem_cons_succ, List.getElem_cons_zero]
        clear hb9 k9 hs9
        refine wpAnyH_mono (S' := fun v => (v.cell? ⟨s, 0, none⟩ = some (.slice A6 d c6) ∧ v.cell? ⟨s, 1, none⟩ = some (.int .i64 (M : Int)) ∧ Rb v v.heap.size A6 D) ∧ Rb v (s9 + 1) (some ⟨s9, 0, none⟩) D) (fun _ h => h.1) _ _ _ _ ?_
        replace hHeld : (fun v => (v.cell? ⟨s, 0, none⟩ = some (.slice A6 d c6) ∧ v.cell? ⟨s, 1, none⟩ = some (.int .i64 (M : Int)) ∧ Rb v v.heap.size A6 D) ∧ Rb v (s9 + 1) (some ⟨s9, 0, none⟩) D) w9 := ⟨hHeld, Rb.bk HB9.out⟩
        refine take_at (some 103) (i := 26) rfl rfl (by kernel_rfl) (by kernel_rfl) (by kernel_rfl) (fun _ _ _ h => h) (yieldsIf_conv (by kernel_rfl) 29 5 9 (.tmp 102) rfl (some ⟨s9, 0, none⟩) d d D rfl HK2.out (fun w h => h.2) Try.underlying29 Try.underlying5 Try.underlying9) hHeld ?_
        try simp only [Act.put, List.setIfInBounds_toArray, List.set_cons_zero, List.set_cons_succ, List.getElem_toArray, List.getElem_cons_succ, List.getElem_cons_zero]
        refine take_at (some 109) (i := 32) (v := ?_) rfl rfl (by kernel_rfl) (by kernel_rfl) (by kernel_rfl) (fun _ _ _ h => h) (Or.inl ⟨by kernel_rfl, ?_⟩) hHeld ?_
        rotate_left
        · intro wz hSw; go_simp; try (with_reducible rfl)
        try simp only [Act.put, List.setIfInBounds_toArray, List.set_cons_zero, List.set_cons_succ, List.getElem_toArray, List.getElem_cons_succ, List.getElem_cons_zero]
        refine take_at (some 110) (i := 33) (v := ?_) rfl rfl (by kernel_rfl) (by kernel_rfl) (by kernel_rfl) (fun _ _ _ h => h) (Or.inl ⟨by kernel_rfl, ?_⟩) hHeld ?_
        rotate_left
        · intro wz hSw; go_simp; try (with_reducible rfl)
        try simp only [Act.put, List.setIfInBounds_toArray, List.set_cons_zero, List.set_cons_succ, List.getElem_toArray, List.getElem_cons_succ, List.getElem_cons_zero]
        refine wpAnyH_done (by kernel_rfl) ?_ _
        clear hHeld
        go_wp2_with fail
        go_roundw
        case rel => exact ⟨i + 1, D, by omega, by go_num, A6, c6, H9.out⟩
        case measure => simp [intOf]; omega
      · have hw2 : (m.what == 2) = false := by rw [beq_eq_false_iff_ne]; exact hw
        obtain ⟨x, hx⟩ : ∃ x, min n1 z = x := ⟨_, rfl⟩
        obtain ⟨D, hD⟩ : ∃ D, q ++ m.l.take z = D := ⟨_, rfl⟩
        obtain ⟨d, hd⟩ : ∃ d, k + x = d := ⟨_, rfl⟩
        have hdM : d ≤ M := by have := HM.out.2.2; omega
        have HT := Lib.hid (show min n1 z = x ∧ q ++ m.l.take z = D ∧ D.length = d from ⟨hx, hD, by rw [← hD, List.length_append, List.length_take, HK.out, HM.out.2.1]; omega⟩)
        clear hx hw hD hd c2
        go_upto_region 15 with (go_at_call 15; refine (w_add_op HW.out.a m (HOP.out _ HW.out.a.b).2 n1 z x HM.out.2.1 HM.out.1 HT.out.1).mono ?_; rintro e u4 ⟨rfl, k4, h4⟩)
        rw [HT.out.2.1] at h4
        have H4 := Lib.hid (show Rw W u4 r g M D ∧ Rs u4 s M q A1 c1' from ⟨h4, HW.out.b.ke k4 (by have := HW.out.lt; simp; omega)⟩)
        have HLT := Lib.hid (show r < s ∧ g < s ∧ W.heap.size ≤ s from ⟨HW.out.lt.1, HW.out.lt.2, HW.out.lo⟩)
        obtain ⟨_, c1, _⟩ := (HOP.out _ h4.b).1
        rw [HM.out.2.1] at c1
        have hop4 := (HOP.out _ h4.b).2
        have HRA := Lib.hid (radd_ok s M m.A n1 m.c m.l q A1 c1' u4 H4.out.2 HM.out.2.1 (HM.out.2.1 ▸ hop4.cap) hop4.max (HM.out.2.1 ▸ hop4.nil_) (hop4.rb.rf (by have := HLT.out; simp; omega)) k z x HK.out HM.out.2.2 HT.out.1)
        clear k4 h4 HW hop4
        go_upto_region 16 with (go_at_call 16; refine HRA.out.mono ?_; rintro e u5 ⟨A6, c6, rfl, h5, k5⟩)
        rw [HT.out.2.1] at h5
        have hb5' : Below W.heap.size W u5 := Below.ke H4.out.1.b k5 (Nat.le_refl _) (by have := HLT.out; simp; omega)
        have HW := Lib.hid (show Pl W u5 r g s M D A6 c6 from ⟨H4.out.1.keep k5 (by have := HLT.out; simp; omega) (by have := HLT.out; simp; omega) hb5', h5, HLT.out.1, HLT.out.2.1⟩)
        have HK2 := Lib.hid HT.out.2.2
        clear h5 k5 hb5' H4 HRA
        go_upto_region 18 with (fail)
        have H6 := Lib.hid (HW.out.ke (Ke.refl _ _).drew)
        have HSS := Lib.hid (show ∀ v, Pl W v r g s M D A6 c6 → v.cell? ⟨s, 0, none⟩ = some (.slice A6 d c6) ∧ v.cell? ⟨s, 1, none⟩ = some (.int .i64 (M : Int)) ∧ Rb v v.heap.size A6 D from fun v hv => by
          obtain ⟨e1, e2, _⟩ := ref_cells hv.b.bk
          rw [HK2.out] at e1
          exact ⟨e1, e2, hv.b.rd.rb⟩)
        obtain ⟨dz, hdz⟩ : ∃ dz, M - d = dz := ⟨_, rfl⟩
        obtain ⟨z1, z2⟩ := iwrap ((M : Int) - (d : Int)) dz (by omega) (by omega)
        have HDZ := Lib.hid (show M - D.length = dz by rw [HK2.out]; exact hdz)
        have hxx : ((bs D).toList == (bs D).toList) = true := beq_self_eq_true _
        clear hdz
        try simp only [List.cons_append, List.nil_append]
        refine wp_region_held_drew (S := fun v => v.cell? ⟨s, 0, none⟩ = some (.slice A6 d c6) ∧ v.cell? ⟨s, 1, none⟩ = some (.int .i64 (M : Int)) ∧ Rb v v.heap.size A6 D) (by kernel_rfl) (HSS.out _ H6.out) (fun hHeld => ?_)
        clear HW
        generalize u5.drew = w6 at H6 hHeld ⊢
        refine take_at (some 77) (i := 0) (v := ?_) rfl rfl (by kernel_rfl) (by kernel_rfl) (by kernel_rfl) (fun _ _ _ h => h) (Or.inl ⟨by kernel_rfl, ?_⟩) hHeld ?_
        rotate_left
        · intro wz hSw; obtain ⟨k0, k1, _⟩ := hSw; go_simp; try (with_reducible rfl)
        try simp only [Act.put, List.setIfInBounds_toArray, List.set_cons_zero, List.set_cons_succ, List.getElem_toArray, List.getElem_cons_succ, List.getElem_cons_zero]
        refine take_at (some 79) (i := 2) (v := ?_) rfl rfl (by kernel_rfl) (by kernel_rfl) (by kernel_rfl) (fun _ _ _ h => h) (Or.inl ⟨by kernel_rfl, ?_⟩) hHeld ?_
        rotate_left
        · intro wz hSw; obtain ⟨k0, k1, _⟩ := hSw; go_simp; try (with_reducible rfl)
        try simp only [Act.put, List.setIfInBounds_toArray, List.set_cons_zero, List.set_cons_succ, List.getElem_toArray, List.getElem_cons_succ, List.getElem_cons_zero]
        refine take_at (some 80) (i := 3) (v := ?_) rfl rfl (by kernel_rfl) (by kernel_rfl) (by kernel_rfl) (fun _ _ _ h => h) (Or.inl ⟨by kernel_rfl, ?_⟩) hHeld ?_
        rotate_left
        · intro wz hSw; obtain ⟨k0, k1, _⟩ := hSw; go_simp; try (with_reducible rfl)
        try simp only [Act.put, List.setIfInBounds_toArray, List.set_cons_zero, List.set_cons_succ, List.getElem_toArray, List.getElem_cons_succ, List.getElem_cons_zero]
        refine take_at (some 81) (i := 4) (v := ?_) rfl rfl (by kernel_rfl) (by kernel_rfl) (by kernel_rfl) (fun _ _ _ h => h) (Or.inl ⟨by kernel_rfl, ?_⟩) hHeld ?_
        rotate_left
        · intro wz hSw; obtain ⟨k0, k1, _⟩ := hSw; go_simp; try (with_reducible rfl)
        try simp only [Act.put, List.setIfInBounds_toArray, List.set_cons_zero, List.set_cons_succ, List.getElem_toArray, List.getElem_cons_succ, List.getElem_cons_zero]
        refine take_at (some 82) (i := 5) (v := ?_) rfl rfl (by kernel_rfl) (by kernel_rfl) (by kernel_rfl) (fun _ _ _ h => h) (Or.inl ⟨by kernel_rfl, ?_⟩) hHeld ?_
        rotate_left
        · intro wz hSw; obtain ⟨k0, k1, _⟩ := hSw; go_simp; try (with_reducible rfl)
        try simp only [Act.put, List.setIfInBounds_toArray, List.set_cons_zero, List.set_cons_succ, List.getElem_toArray, List.getElem_cons_succ, List.getElem_cons_zero]
        refine take_at (some 83) (i := 6) (v := ?_) rfl rfl (by kernel_rfl) (by kernel_rfl) (by kernel_rfl) (fun _ _ _ h => h) (Or.inl ⟨by kernel_rfl, ?_⟩) hHeld ?_
        rotate_left
        · intro wz hSw; obtain ⟨k0, k1, _⟩ := hSw; go_simp; try (with_reducible rfl)
        try simp only [Act.put, List.setIfInBounds_toArray, List.set_cons_zero, List.set_cons_succ, List.getElem_toArray, List.getElem_cons_succ, List.getElem_cons_zero]
        refine wpAnyH_ready (rs := [1]) (by kernel_rfl) (by simp) (AllReadyH.cons rfl (fun K hK => ?_) AllReadyH.nil)
        rw [if_pos (by kernel_rfl)]
        go_simp
        refine (w_many H6.out.a d HK2.out).mono ?_
        rintro e w7 ⟨rfl, rfl⟩
        try dsimp only
        refine hK.out _ _ (hHeld) (fun hHeld => ?_)
        try simp only [Act.put, List.setIfInBounds_toArray, List.set_cons_zero, List.set_cons_succ, List.getElem_toArray, List.getElem_cons_succ, List.getElem_cons_zero]
        refine take_at (some 84) (i := 7) (v := ?_) rfl rfl (by kernel_rfl) (by kernel_rfl) (by kernel_rfl) (fun _ _ _ h => h) (Or.inl ⟨by kernel_rfl, ?_⟩) hHeld ?_
        rotate_left
        · intro wz hSw; obtain ⟨k0, k1, _⟩ := hSw; go_simp; try (with_reducible rfl)
        try simp only [Act.put, List.setIfInBounds_toArray, List.set_cons_zero, List.set_cons_succ, List.getElem_toArray, List.getElem_cons_succ, List.getElem_cons_zero]
        refine take_at (some 85) (i := 8) (v := ?_) rfl rfl (by kernel_rfl) (by kernel_rfl) (by kernel_rfl) (fun _ _ _ h => h) (Or.inl ⟨by kernel_rfl, ?_⟩) hHeld ?_
        rotate_left
        · intro wz hSw; obtain ⟨k0, k1, _⟩ := hSw; go_simp; try (with_reducible rfl)
        try simp only [Act.put, List.setIfInBounds_toArray, List.set_cons_zero, List.set_cons_succ, List.getElem_toArray, List.getElem_cons_succ, List.getElem_cons_zero]
        refine take_at (some 86) (i := 9) (v := ?_) rfl rfl (by kernel_rfl) (by kernel_rfl) (by kernel_rfl) (fun _ _ _ h => h) (Or.inl ⟨by kernel_rfl, ?_⟩) hHeld ?_
        rotate_left
        · intro wz hSw; obtain ⟨k0, k1, _⟩ := hSw; go_simp; try (with_reducible rfl)
        try simp only [Act.put, List.setIfInBounds_toArray, List.set_cons_zero, List.set_cons_succ, List.getElem_toArray, List.getElem_cons_succ, List.getElem_cons_zero]
        refine take_at (some 88) (i := 11) (v := ?_) rfl rfl (by kernel_rfl) (by kernel_rfl) (by kernel_rfl) (fun _ _ _ h => h) (Or.inl ⟨by kernel_rfl, ?_⟩) hHeld ?_
        rotate_left
        · intro wz hSw; obtain ⟨k0, k1, _⟩ := hSw; go_simp; try (with_reducible rfl)
        try simp only [Act.put, List.setIfInBounds_toArray, List.set_cons_zero, List.set_cons_succ, List.getElem_toArray, List.getElem_cons_succ, List.getElem_cons_zero]
        refine take_at (some 89) (i := 12) (v := ?_) rfl rfl (by kernel_rfl) (by kernel_rfl) (by kernel_rfl) (fun _ _ _ h => h) (Or.inl ⟨by kernel_rfl, ?_⟩) hHeld ?_
        rotate_left
        · intro wz hSw; obtain ⟨k0, k1, _⟩ := hSw; go_simp; try (with_reducible rfl)
        try simp only [Act.put, List.setIfInBounds_toArray, List.set_cons_zero, List.set_cons_succ, List.getElem_toArray, List.getElem_cons_succ, List.getElem_cons_zero]
        refine take_at (some 90) (i := 13) (v := ?_) rfl rfl (by kernel_rfl) (by kernel_rfl) (by kernel_rfl) (fun _ _ _ h => h) (Or.inl ⟨by kernel_rfl, ?_⟩) hHeld ?_
        rotate_left
        · intro wz hSw; obtain ⟨k0, k1, _⟩ := hSw; go_simp; try (with_reducible rfl)
        try simp only [Act.put, List.setIfInBounds_toArray, List.set_cons_zero, List.set_cons_succ, List.getElem_toArray, List.getElem_cons_succ, List.getElem_cons_zero]
        refine take_at (some 91) (i := 14) (v := ?_) rfl rfl (by kernel_rfl) (by kernel_rfl) (by kernel_rfl) (fun _ _ _ h => h) (Or.inl ⟨by kernel_rfl, ?_⟩) hHeld ?_
        rotate_left
        · intro wz hSw; obtain ⟨k0, k1, _⟩ := hSw; go_simp; try (with_reducible rfl)
        try simp only [Act.put, List.setIfInBounds_toArray, List.set_cons_zero, List.set_cons_succ, List.getElem_toArray, List.getElem_cons_succ, List.getElem_cons_zero]
        refine take_at (some 92) (i := 15) (v := ?_) rfl rfl (by kernel_rfl) (by kernel_rfl) (by kernel_rfl) (fun _ _ _ h => h) (Or.inl ⟨by kernel_rfl, ?_⟩) hHeld ?_
        rotate_left
        · intro wz hSw; obtain ⟨k0, k1, _⟩ := hSw; go_simp; try (with_reducible rfl)
        try simp only [Act.put, List.setIfInBounds_toArray, List.set_cons_zero, List.set_cons_succ, List.getElem_toArray, List.getElem_cons_succ, List.getElem_cons_zero]
        refine take_at (some 93) (i := 16) (v := ?_) rfl rfl (by kernel_rfl) (by kernel_rfl) (by kernel_rfl) (fun _ _ _ h => h) (Or.inl ⟨by kernel_rfl, ?_⟩) hHeld ?_
        rotate_left
        · intro wz hSw; obtain ⟨k0, k1, _⟩ := hSw; go_simp; try (with_reducible rfl)
        try simp only [Act.put, List.setIfInBounds_toArray, List.set_cons_zero, List.set_cons_succ, List.getElem_toArray, List.getElem_cons_succ, List.getElem_cons_zero]
        refine take_at (some 94) (i := 17) (v := ?_) rfl rfl (by kernel_rfl) (by kernel_rfl) (by kernel_rfl) (fun _ _ _ h => h) (Or.inl ⟨by kernel_rfl, ?_⟩) hHeld ?_
        rotate_left
        · intro wz hSw; obtain ⟨k0, k1, _⟩ := hSw; go_simp; try (with_reducible rfl)
        try simp only [Act.put, List.setIfInBounds_toArray, List.set_cons_zero, List.set_cons_succ, List.getElem_toArray, List.getElem_cons_succ, List.getElem_cons_zero]
        refine take_at (some 95) (i := 18) (v := ?_) rfl rfl (by kernel_rfl) (by kernel_rfl) (by kernel_rfl) (fun _ _ _ h => h) (Or.inl ⟨by kernel_rfl, ?_⟩) hHeld ?_
        rotate_left
        · intro wz hSw; obtain ⟨k0, k1, _⟩ := hSw; go_simp; try (with_reducible rfl)
        try simp only [Act.put, List.setIfInBounds_toArray, List.set_cons_zero, List.set_cons_succ, List.getElem_toArray, List.getElem_cons_succ, List.getElem_cons_zero]
        refine take_at (some 96) (i := 19) (v := ?_) rfl rfl (by kernel_rfl) (by kernel_rfl) (by kernel_rfl) (fun _ _ _ h => h) (Or.inl ⟨by kernel_rfl, ?_⟩) hHeld ?_
        rotate_left
        · intro wz hSw; obtain ⟨k0, k1, _⟩ := hSw; go_simp; try (with_reducible rfl)
        try simp only [Act.put, List.setIfInBounds_toArray, List.set_cons_zero, List.set_cons_succ, List.getElem_toArray, List.getElem_cons_succ, List.getElem_cons_zero]
        refine take_at (some 97) (i := 20) (v := ?_) rfl rfl (by kernel_rfl) (by kernel_rfl) (by kernel_rfl) (fun _ _ _ h => h) (Or.inl ⟨by kernel_rfl, ?_⟩) hHeld ?_
        rotate_left
        · intro wz hSw; obtain ⟨k0, k1, _⟩ := hSw; go_simp; try (with_reducible rfl)
        try simp only [Act.put, List.setIfInBounds_toArray, List.set_cons_zero, List.set_cons_succ, List.getElem_toArray, List.getElem_cons_succ, List.getElem_cons_zero]
        refine wpAnyH_ready (rs := [10]) (by kernel_rfl) (by simp) (AllReadyH.cons rfl (fun K hK => ?_) AllReadyH.nil)
        rw [if_pos (by kernel_rfl)]
        go_simp
        refine (w_room H6.out.a dz HDZ.out).mono ?_
        rintro e w8 ⟨rfl, k8, _⟩
        try dsimp only
        have H8 := Lib.hid (H6.out.ke k8)
        clear k8
        refine hK.out _ _ (HSS.out _ H8.out) (fun hHeld => ?_)
        try simp only [Act.put, List.setIfInBounds_toArray, List.set_cons_zero, List.set_cons_succ, List.getElem_toArray, List.getElem_cons_succ, List.getElem_cons_zero]
        refine take_at (some 98) (i := 21) (v := ?_) rfl rfl (by kernel_rfl) (by kernel_rfl) (by kernel_rfl) (fun _ _ _ h => h) (Or.inl ⟨by kernel_rfl, ?_⟩) hHeld ?_
        rotate_left
        · intro wz hSw; obtain ⟨k0, k1, _⟩ := hSw; go_simp; try (with_reducible rfl)
        try simp only [Act.put, List.setIfInBounds_toArray, List.set_cons_zero, List.set_cons_succ, List.getElem_toArray, List.getElem_cons_succ, List.getElem_cons_zero]
        refine take_at (some 99) (i := 22) (v := ?_) rfl rfl (by kernel_rfl) (by kernel_rfl) (by kernel_rfl) (fun _ _ _ h => h) (Or.inl ⟨by kernel_rfl, ?_⟩) hHeld ?_
        rotate_left
        · intro wz hSw; obtain ⟨k0, k1, _⟩ := hSw; go_simp; try (with_reducible rfl)
        try simp only [Act.put, List.setIfInBounds_toArray, List.set_cons_zero, List.set_cons_succ, List.getElem_toArray, List.getElem_cons_succ, List.getElem_cons_zero]
        refine take_at (some 100) (i := 23) (v := ?_) rfl rfl (by kernel_rfl) (by kernel_rfl) (by kernel_rfl) (fun _ _ _ h => h) (Or.inl ⟨by kernel_rfl, ?_⟩) hHeld ?_
        rotate_left
        · intro wz hSw; obtain ⟨k0, k1, _⟩ := hSw; go_simp; try (with_reducible rfl)
        try simp only [Act.put, List.setIfInBounds_toArray, List.set_cons_zero, List.set_cons_succ, List.getElem_toArray, List.getElem_cons_succ, List.getElem_cons_zero]
        refine take_at (some 101) (i := 24) (v := ?_) rfl rfl (by kernel_rfl) (by kernel_rfl) (by kernel_rfl) (fun _ _ _ h => h) (Or.inl ⟨by kernel_rfl, ?_⟩) hHeld ?_
        rotate_left
        · intro wz hSw; obtain ⟨k0, k1, _⟩ := hSw; go_simp; try (with_reducible rfl)
        try simp only [Act.put, List.setIfInBounds_toArray, List.set_cons_zero, List.set_cons_succ, List.getElem_toArray, List.getElem_cons_succ, List.getElem_cons_zero]
        refine take_at (some 104) (i := 27) (v := ?_) rfl rfl (by kernel_rfl) (by kernel_rfl) (by kernel_rfl) (fun _ _ _ h => h) (Or.inl ⟨by kernel_rfl, ?_⟩) hHeld ?_
        rotate_left
        · intro wz hSw; obtain ⟨k0, k1, _⟩ := hSw; go_simp; try (with_reducible rfl)
        try simp only [Act.put, List.setIfInBounds_toArray, List.set_cons_zero, List.set_cons_succ, List.getElem_toArray, List.getElem_cons_succ, List.getElem_cons_zero]
        refine take_at (some 105) (i := 28) (v := ?_) rfl rfl (by kernel_rfl) (by kernel_rfl) (by kernel_rfl) (fun _ _ _ h => h) (Or.inl ⟨by kernel_rfl, ?_⟩) hHeld ?_
        rotate_left
        · intro wz hSw; obtain ⟨k0, k1, _⟩ := hSw; go_simp; try (with_reducible rfl)
        try simp only [Act.put, List.setIfInBounds_toArray, List.set_cons_zero, List.set_cons_succ, List.getElem_toArray, List.getElem_cons_succ, List.getElem_cons_zero]
        refine take_at (some 106) (i := 29) (v := ?_) rfl rfl (by kernel_rfl) (by kernel_rfl) (by kernel_rfl) (fun _ _ _ h => h) (Or.inl ⟨by kernel_rfl, ?_⟩) hHeld ?_
        rotate_left
        · intro wz hSw; obtain ⟨k0, k1, _⟩ := hSw; go_simp; try (with_reducible rfl)
        try simp only [Act.put, List.setIfInBounds_toArray, List.set_cons_zero, List.set_cons_succ, List.getElem_toArray, List.getElem_cons_succ, List.getElem_cons_zero]
        refine take_at (some 107) (i := 30) (v := ?_) rfl rfl (by kernel_rfl) (by kernel_rfl) (by kernel_rfl) (fun _ _ _ h => h) (Or.inl ⟨by kernel_rfl, ?_⟩) hHeld ?_
        rotate_left
        · intro wz hSw; obtain ⟨k0, k1, _⟩ := hSw; go_simp; try (with_reducible rfl)
        try simp only [Act.put, List.setIfInBounds_toArray, List.set_cons_zero, List.set_cons_succ, List.getElem_toArray, List.getElem_cons_succ, List.getElem_cons_zero]
        refine take_at (some 108) (i := 31) rfl rfl (by kernel_rfl) (by kernel_rfl) (by kernel_rfl) (fun _ _ _ h => h) (yieldsIf_conv (by kernel_rfl) 29 5 9 (.tmp 107) rfl A6 d c6 D rfl HK2.out (fun w h => h.2.2) Try.underlying29 Try.underlying5 Try.underlying9) hHeld ?_
        try simp only [Act.put, List.setIfInBounds_toArray, List.set_cons_zero, List.set_cons_succ, List.getElem_toArray, List.getElem_cons_succ, List.getElem_cons_zero]
        refine wpAnyH_ready (rs := [25]) (by kernel_rfl) (by simp) (AllReadyH.cons rfl (fun K hK => ?_) AllReadyH.nil)
        rw [if_pos (by kernel_rfl)]
        go_simp
        refine (w_look H8.out.a d HK2.out).mono ?_
        rintro e w9 ⟨rfl, hb9, k9, _⟩
        try dsimp only
        have H9 := Lib.hid (H8.out.ke k9)
        generalize hs9 : w8.heap.size = s9 at *
        have HB9 := Lib.hid hb9
        refine hK.out _ _ (HSS.out _ H9.out) (fun hHeld => ?_)
        try simp only [Act.put, List.setIfInBounds_toArray, List.set_cons_zero, List.set_cons_succ, List.getElem_toArray, List.getElem_cons_succ, List.getElem_cons_zero]
        clear hb9 k9 hs9
        refine wpAnyH_mono (S' := fun v => (v.cell? ⟨s, 0, none⟩ = some (.slice A6 d c6) ∧ v.cell? ⟨s, 1, none⟩ = some (.int .i64 (M : Int)) ∧ Rb v v.heap.size A6 D) ∧ Rb v (s9 + 1) (some ⟨s9, 0, none⟩) D) (fun _ h => h.1) _ _ _ _ ?_
        replace hHeld : (fun v => (v.cell? ⟨s, 0, none⟩ = some (.slice A6 d c6) ∧ v.cell? ⟨s, 1, none⟩ = some (.int .i64 (M : Int)) ∧ Rb v v.heap.size A6 D) ∧ Rb v (s9 + 1) (some ⟨s9, 0, none⟩) D) w9 := ⟨hHeld, Rb.bk HB9.out⟩
        refine take_at (some 103) (i := 26) rfl rfl (by kernel_rfl) (by kernel_rfl) (by kernel_rfl) (fun _ _ _ h => h) (yieldsIf_conv (by kernel_rfl) 29 5 9 (.tmp 102) rfl (some ⟨s9, 0, none⟩) d d D rfl HK2.out (fun w h => h.2) Try.underlying29 Try.underlying5 Try.underlying9) hHeld ?_
        try simp only [Act.put, List.setIfInBounds_toArray, List.set_cons_zero, List.set_cons_succ, List.getElem_toArray, List.getElem_cons_succ, List.getElem_cons_zero]
        refine take_at (some 109) (i := 32) (v := ?_) rfl rfl (by kernel_rfl) (by kernel_rfl) (by kernel_rfl) (fun _ _ _ h => h) (Or.inl ⟨by kernel_rfl, ?_⟩) hHeld ?_
        rotate_left
        · intro wz hSw; go_simp; try (with_reducible rfl)
        try simp only [Act.put, List.setIfInBounds_toArray, List.set_cons_zero, List.set_cons_succ, List.getElem_toArray, List.getElem_cons_succ, List.getElem_cons_zero]
        refine take_at (some 110) (i := 33) (v := ?_) rfl rfl (by kernel_rfl) (by kernel_rfl) (by kernel_rfl) (fun _ _ _ h => h) (Or.inl ⟨by kernel_rfl, ?_⟩) hHeld ?_
        rotate_left
        · intro wz hSw; go_simp; try (with_reducible rfl)
        try simp only [Act.put, List.setIfInBounds_toArray, List.set_cons_zero, List.set_cons_succ, List.getElem_toArray, List.getElem_cons_succ, List.getElem_cons_zero]
        refine wpAnyH_done (by kernel_rfl) ?_ _
        clear hHeld
        go_wp2_with fail
        go_roundw
        case rel => exact ⟨i + 1, D, by omega, by go_num, A6, c6, H9.out⟩
        case measure => simp [intOf]; omega
    · have hi2 : ¬ (i : Int) < (n : Int) := by omega
      go_wp2_with fail
      go_ret
      exact ⟨rfl, HW.out.a.b⟩
end Go.Proofs.Ytiomfinimbogaaa
