/- Take and Add of a ring: their contracts. (Written by gen_ring3.py.) -/
import Derived.Test.YtndamiocmdnenaaGreatRing2
namespace Go.Proofs.YtndamiocmdnenaaGreat
set_option linter.unusedVariables false
set_option maxRecDepth 100000
set_option linter.unusedSimpArgs false
open Go.RowKit

/-- How many of k are taken. -/
def takeM (x : Int) (k : Nat) : Nat := (min (max x 0) (k : Int)).toNat
theorem takeM_le (x : Int) (k : Nat) : takeM x k ≤ k := by unfold takeM; omega

theorem ring_free {u : World} {r g m f k : Nat} {t : TypeId} (h : Bk u r t (rcells g m f k)) : u.frozen? ⟨r, 1, none⟩ = false ∧ u.frozen? ⟨r, 2, none⟩ = false := ⟨h.frozen 1, h.frozen 2⟩
theorem ring_first {u : World} {r g m f k : Nat} {t : TypeId} (h : Bk u r t (rcells g m f k)) (f' : Nat) : Bk (u.setCell ⟨r, 1, none⟩ (.int .i64 (f' : Int))) r t (rcells g m f' k) := h.set 1 _
theorem ring_many {u : World} {r g m f k : Nat} {t : TypeId} (h : Bk u r t (rcells g m f k)) (k' : Nat) : Bk (u.setCell ⟨r, 2, none⟩ (.int .i64 (k' : Int))) r t (rcells g m f k') := h.set 2 _

set_option maxRecDepth 100000 in
set_option maxHeartbeats 8000000 in
/-- Take. -/
theorem take_ok (r g m : Nat) (x : Int) (q : List UInt8) (u : World) (h : Rg u r g m q) :
    Calls Tryz.prog 75 #[.pointer (some ⟨r, 0, none⟩), .int .i64 x] u fun e u' => e = .returned (.slice (some ⟨u.heap.size, 0, none⟩) (takeM x q.length) (takeM x q.length)) ∧
      Bk u' u.heap.size 5 (bcells (q.take (takeM x q.length))) ∧ Rg u' r g m (q.drop (takeM x q.length)) ∧ Ke [r] u u' := by
  have hf := h.fit
  have h6m := h.most
  have hlt := h.lt
  have hle := takeM_le x q.length
  have hBE := begin_ok r g m (takeM x q.length) q u h hle
  obtain ⟨hne, _, row, f, hrow, hrd, h5, h6⟩ := h
  have hfst := hrd.fst
  have HRD := hrd.take_ (takeM x q.length) hle
  rw [hrow] at HRD
  have HDL : (q.drop (takeM x q.length)).length = q.length - takeM x q.length := List.length_drop
  obtain ⟨n, hn⟩ : ∃ n, takeM x q.length = n := ⟨_, rfl⟩
  rw [hn] at hBE HRD HDL hle ⊢
  obtain ⟨D, hD⟩ : ∃ D, q.drop n = D := ⟨_, rfl⟩
  obtain ⟨F, hF⟩ : ∃ F, q.take n = F := ⟨_, rfl⟩
  rw [hD] at HRD HDL ⊢
  rw [hF] at hBE ⊢
  obtain ⟨k, hk⟩ : ∃ k, q.length = k := ⟨_, rfl⟩
  rw [hk] at h6 hle hf hn HDL
  obtain ⟨s, hs⟩ : ∃ s, u.heap.size = s := ⟨_, rfl⟩
  rw [hs] at hBE hlt ⊢
  obtain ⟨f', hf'⟩ : ∃ f', plc m (f + n) = f' := ⟨_, rfl⟩
  rw [hf'] at HRD
  obtain ⟨d, hd⟩ : ∃ d, k - n = d := ⟨_, rfl⟩
  rw [hd] at HDL
  have hP := fun (v : World) (hv : Bk v r 95 (rcells g m f k)) => place_ok r g m f k n v 95 hv (by omega) (by omega) h6m
  rw [hf'] at hP
  obtain ⟨z1, z2⟩ := iwrap ((k : Int) - (n : Int)) d (by omega) (by omega)
  have HX := Lib.hid (And.intro h5 h6)
  have HY := Lib.hid (And.intro hrow (And.intro HRD (And.intro HDL (And.intro hlt (And.intro hne hs)))))
  have HC0 := (ring_cells h6).2.2
  clear h5 h6 hrow HRD HDL hlt hne hs hf' hrd hfst hF hD hk
  have hmn : x < 0 ∧ n = 0 ∨ x = (n : Int) ∧ n ≤ k ∨ ∃ y : Nat, x = (y : Int) ∧ n = k ∧ k < y := by
    unfold takeM at hn
    by_cases h0 : x < 0
    · left; exact ⟨h0, by omega⟩
    · right
      by_cases h1 : x ≤ (k : Int)
      · left; omega
      · right; exact ⟨x.toNat, by omega, by omega, by omega⟩
  clear hn
  rcases hmn with ⟨h0, hn0⟩ | ⟨rfl, hnk⟩ | ⟨y, rfl, hnk, hyk⟩
  · subst hn0
    obtain rfl : k = d := by omega
    simp only [Int.natCast_zero, Int.sub_zero] at hBE hP z1 z2
    clear hle hd
    have HBE := Lib.hid hBE
    have HP := Lib.hid hP
    clear hBE hP
    go_enter Tryz.func75, Tryz.ntmps75
    go_upto_region 2 with (go_at_call 89; refine HBE.out.mono ?_; rintro e u1 ⟨rfl, hb1, hk1⟩)
    have H1 := Lib.hid (show Bk u1 s 5 (bcells F) ∧ Bk u1 g 5 (bcells row) ∧ Bk u1 r 95 (rcells g m f k) ∧ Ke [] u u1 from ⟨hb1, HX.out.1.ke hk1 (by simp), HX.out.2.ke hk1 (by simp), hk1⟩)
    clear hb1 hk1 HC0
    have hc1 := (ring_cells H1.out.2.2.1).2.1
    have hz1 := (ring_free H1.out.2.2.1).1
    go_upto_region 3 with (go_at_call 90; refine (HP.out _ H1.out.2.2.1).mono ?_; rintro e uu ⟨rfl, rfl⟩)
    clear hc1 hz1
    have H2 := Lib.hid (show Bk (uu.setCell ⟨r, 1, none⟩ (.int .i64 (f' : Int))) s 5 (bcells F) ∧ Bk (uu.setCell ⟨r, 1, none⟩ (.int .i64 (f' : Int))) g 5 (bcells row) ∧ Bk (uu.setCell ⟨r, 1, none⟩ (.int .i64 (f' : Int))) r 95 (rcells g m f' k) ∧ Ke [r] u (uu.setCell ⟨r, 1, none⟩ (.int .i64 (f' : Int))) from
      ⟨H1.out.1.far (Ne.symm (Nat.ne_of_lt HY.out.2.2.2.1.1)) _, H1.out.2.1.far (Ne.symm HY.out.2.2.2.2.1) _, ring_first H1.out.2.2.1 f', H1.out.2.2.2.nil.set (p := ⟨r, 1, none⟩) (by simp) _⟩)
    generalize uu.setCell ⟨r, 1, none⟩ (.int .i64 (f' : Int)) = u2 at H2 ⊢
    have hc2 := (ring_cells H2.out.2.2.1).2.2
    have hz2 := (ring_free H2.out.2.2.1).2
    go_wp2_with fail
    go_ret
    refine ⟨rfl, H2.out.1.far (Ne.symm (Nat.ne_of_lt HY.out.2.2.2.1.1)) _, ⟨HY.out.2.2.2.2.1, h6m, row, f', HY.out.1, HY.out.2.1, H2.out.2.1.far (Ne.symm HY.out.2.2.2.2.1) _, ?_⟩, H2.out.2.2.2.set (p := ⟨r, 2, none⟩) (by simp) _⟩
    rw [HY.out.2.2.1]
    exact ring_many H2.out.2.2.1 k
  · have hnk2 : ¬ ((k : Int) < (n : Int)) := by omega
    clear hd hnk
    have HBE := Lib.hid hBE
    have HP := Lib.hid hP
    clear hBE hP
    go_enter Tryz.func75, Tryz.ntmps75
    go_upto_region 2 with (go_at_call 89; refine HBE.out.mono ?_; rintro e u1 ⟨rfl, hb1, hk1⟩)
    have H1 := Lib.hid (show Bk u1 s 5 (bcells F) ∧ Bk u1 g 5 (bcells row) ∧ Bk u1 r 95 (rcells g m f k) ∧ Ke [] u u1 from ⟨hb1, HX.out.1.ke hk1 (by simp), HX.out.2.ke hk1 (by simp), hk1⟩)
    clear hb1 hk1 HC0
    have hc1 := (ring_cells H1.out.2.2.1).2.1
    have hz1 := (ring_free H1.out.2.2.1).1
    go_upto_region 3 with (go_at_call 90; refine (HP.out _ H1.out.2.2.1).mono ?_; rintro e uu ⟨rfl, rfl⟩)
    clear hc1 hz1
    have H2 := Lib.hid (show Bk (uu.setCell ⟨r, 1, none⟩ (.int .i64 (f' : Int))) s 5 (bcells F) ∧ Bk (uu.setCell ⟨r, 1, none⟩ (.int .i64 (f' : Int))) g 5 (bcells row) ∧ Bk (uu.setCell ⟨r, 1, none⟩ (.int .i64 (f' : Int))) r 95 (rcells g m f' k) ∧ Ke [r] u (uu.setCell ⟨r, 1, none⟩ (.int .i64 (f' : Int))) from
      ⟨H1.out.1.far (Ne.symm (Nat.ne_of_lt HY.out.2.2.2.1.1)) _, H1.out.2.1.far (Ne.symm HY.out.2.2.2.2.1) _, ring_first H1.out.2.2.1 f', H1.out.2.2.2.nil.set (p := ⟨r, 1, none⟩) (by simp) _⟩)
    generalize uu.setCell ⟨r, 1, none⟩ (.int .i64 (f' : Int)) = u2 at H2 ⊢
    have hc2 := (ring_cells H2.out.2.2.1).2.2
    have hz2 := (ring_free H2.out.2.2.1).2
    go_wp2_with fail
    go_ret
    refine ⟨rfl, H2.out.1.far (Ne.symm (Nat.ne_of_lt HY.out.2.2.2.1.1)) _, ⟨HY.out.2.2.2.2.1, h6m, row, f', HY.out.1, HY.out.2.1, H2.out.2.1.far (Ne.symm HY.out.2.2.2.2.1) _, ?_⟩, H2.out.2.2.2.set (p := ⟨r, 2, none⟩) (by simp) _⟩
    rw [HY.out.2.2.1]
    exact ring_many H2.out.2.2.1 d
  · obtain rfl : k = n := hnk.symm
    have hyk2 : (k : Int) < (y : Int) := by omega
    obtain rfl : d = 0 := by omega
    clear hd hyk hle z1 z2
    have HBE := Lib.hid hBE
    have HP := Lib.hid hP
    clear hBE hP
    go_enter Tryz.func75, Tryz.ntmps75
    go_upto_region 2 with (go_at_call 89; refine HBE.out.mono ?_; rintro e u1 ⟨rfl, hb1, hk1⟩)
    have H1 := Lib.hid (show Bk u1 s 5 (bcells F) ∧ Bk u1 g 5 (bcells row) ∧ Bk u1 r 95 (rcells g m f k) ∧ Ke [] u u1 from ⟨hb1, HX.out.1.ke hk1 (by simp), HX.out.2.ke hk1 (by simp), hk1⟩)
    clear hb1 hk1 HC0
    have hc1 := (ring_cells H1.out.2.2.1).2.1
    have hz1 := (ring_free H1.out.2.2.1).1
    go_upto_region 3 with (go_at_call 90; refine (HP.out _ H1.out.2.2.1).mono ?_; rintro e uu ⟨rfl, rfl⟩)
    clear hc1 hz1
    have H2 := Lib.hid (show Bk (uu.setCell ⟨r, 1, none⟩ (.int .i64 (f' : Int))) s 5 (bcells F) ∧ Bk (uu.setCell ⟨r, 1, none⟩ (.int .i64 (f' : Int))) g 5 (bcells row) ∧ Bk (uu.setCell ⟨r, 1, none⟩ (.int .i64 (f' : Int))) r 95 (rcells g m f' k) ∧ Ke [r] u (uu.setCell ⟨r, 1, none⟩ (.int .i64 (f' : Int))) from
      ⟨H1.out.1.far (Ne.symm (Nat.ne_of_lt HY.out.2.2.2.1.1)) _, H1.out.2.1.far (Ne.symm HY.out.2.2.2.2.1) _, ring_first H1.out.2.2.1 f', H1.out.2.2.2.nil.set (p := ⟨r, 1, none⟩) (by simp) _⟩)
    generalize uu.setCell ⟨r, 1, none⟩ (.int .i64 (f' : Int)) = u2 at H2 ⊢
    have hc2 := (ring_cells H2.out.2.2.1).2.2
    have hz2 := (ring_free H2.out.2.2.1).2
    go_wp2_with fail
    go_ret
    refine ⟨rfl, H2.out.1.far (Ne.symm (Nat.ne_of_lt HY.out.2.2.2.1.1)) _, ⟨HY.out.2.2.2.2.1, h6m, row, f', HY.out.1, HY.out.2.1, H2.out.2.1.far (Ne.symm HY.out.2.2.2.2.1) _, ?_⟩, H2.out.2.2.2.set (p := ⟨r, 2, none⟩) (by simp) _⟩
    rw [HY.out.2.2.1]
    exact ring_many H2.out.2.2.1 0

set_option maxRecDepth 100000 in
set_option maxHeartbeats 8000000 in
/-- Add. -/
theorem add_ok (r g m : Nat) (A : Option Addr) (n c : Nat) (l q : List UInt8) (u : World) (h : Rg u r g m q) (hl : l.length = n) (hc : n ≤ c) (hcm : c ≤ 9223372036854775807) (hR : Rf u [r, g] A l) :
    Calls Tryz.prog 86 #[.pointer (some ⟨r, 0, none⟩), .slice A n c] u fun e u' => e = .returned (.int .i64 ((min n (m - q.length) : Nat) : Int)) ∧
      Rg u' r g m (q ++ l.take (m - q.length)) ∧ Ke [r, g] u u' := by
  have hf := h.fit
  have h6m := h.most
  have hRO := fun v (hv : Rg v r g m q) => room_ok r g m q v hv
  have HRG := Lib.hid h
  obtain ⟨hne, _, row0, f0, hrow0, hrd0, h50, h60⟩ := id h
  obtain ⟨k, hk⟩ : ∃ k, q.length = k := ⟨_, rfl⟩
  rw [hk] at hRO hf ⊢
  obtain ⟨s, hs⟩ : ∃ s, m - k = s := ⟨_, rfl⟩
  rw [hs] at hRO ⊢
  obtain ⟨x, hx⟩ : ∃ x, min n s = x := ⟨_, rfl⟩
  have HMIN := Lib.hid (show min (n : Int) (s : Int) = (x : Int) by omega)
  have hxn : x ≤ n := by omega
  have hxs : x ≤ s := by omega
  rw [hx]
  have HRO := Lib.hid hRO
  clear hRO
  have HSL := Lib.hid (fun v => slice_to A n c x hxn hc v)
  have HTX : l.take s = l.take x := by
    rcases Nat.lt_or_ge n s with h1 | h1
    · rw [List.take_of_length_le (by omega), List.take_of_length_le (by omega)]
    · rw [show x = s by omega]
  rw [HTX]
  obtain ⟨C, hC⟩ : ∃ C, l.take x = C := ⟨_, rfl⟩
  have hCl : C.length = x := by rw [← hC, List.length_take]; omega
  have hRC : Rf u [r, g] A C := by rw [← hC]; exact hR.front x
  rw [hC]
  have hNE := Lib.hid hne
  have hCLL := Lib.hid hCl
  have hRCC := Lib.hid hRC
  have hKK := Lib.hid hk
  have hSS := Lib.hid hs
  obtain ⟨y1, y2⟩ := iwrap ((k : Int) + (x : Int)) (k + x) (by omega) (by omega)
  obtain ⟨kx, hkx⟩ : ∃ kx, k + x = kx := ⟨_, rfl⟩
  rw [hkx] at y1 y2
  have hKX := Lib.hid hkx
  have Y := Lib.hid (And.intro y1 y2)
  clear h hl hR hne hrow0 hrd0 h50 h60 hk hs hx HTX hC hCl hRC hkx y1 y2
  go_enter Tryz.func86, Tryz.ntmps86
  go_upto_region 2 with (first | (go_at_call 80; refine (HRO.out _ HRG.out).mono ?_; rintro e u1 ⟨rfl, hk1⟩) | (refine wpList_min rfl (.tmp 8) (.tmp 10) 3 rfl _ _ _ rfl rfl HMIN.out ?_) | (refine wpList_to rfl 30 (.tmp 6) (.tmp 11) rfl _ _ _ rfl rfl (HSL.out _) ?_))
  have HR1 := HRG.out.ke hk1 (by simp) (by simp)
  obtain ⟨_, _, row, f, hrow, hrd, h5, h6⟩ := HR1
  have hfst := hrd.fst
  rw [hKK.out] at h6
  obtain ⟨p, hp⟩ : ∃ p, plc m (f + k) = p := ⟨_, rfl⟩
  have hpm : p ≤ m := by rw [← hp, ← hrow]; exact plc_le hrd k (by rw [hrow]; exact hf)
  obtain ⟨b, hb⟩ : ∃ b, min x (m - p) = b := ⟨_, rfl⟩
  have hbx : b ≤ x := by omega
  have HAD := Lib.hid (hrd.add_ C (by rw [hCLL.out, hrow, hKK.out, hSS.out]; exact hxs) p b (by rw [hrow, hKK.out, hp]) (by rw [hCLL.out, hrow, hb]))
  have hl1 : (C.take b).length = b := by rw [List.length_take, hCLL.out]; omega
  have hl2 : (C.drop b).length = x - b := by rw [List.length_drop, hCLL.out]
  have HL := Lib.hid (And.intro hl1 hl2)
  have hP := place_ok r g m f k k u1.drew 95 h6.drew (by omega) (by omega) h6m
  rw [hp] at hP
  have HP := Lib.hid hP
  clear hP
  have H1 := Lib.hid (show Bk u1.drew g 5 (bcells row) ∧ Bk u1.drew r 95 (rcells g m f k) ∧ Rf u1.drew [r, g] A C ∧ Ke [r, g] u u1.drew from ⟨h5.drew, h6.drew, hRCC.out.ke hk1.drew (by simp), hk1.nil.drew⟩)
  have HROW := Lib.hid hrow
  have HBN := Lib.hid hb
  have hxc : x ≤ c := by omega
  have hT := (fun v => slice_fr (some ⟨g, 0, none⟩) m m p hpm (Nat.le_refl _) v)
  have hT2 := (fun v => slice_fr A x c b hbx hxc v)
  obtain ⟨TA, hTA⟩ : ∃ TA, tailA (some ⟨g, 0, none⟩) m p = TA := ⟨_, rfl⟩
  obtain ⟨TB, hTB⟩ : ∃ TB, tailA A c b = TB := ⟨_, rfl⟩
  rw [hTA] at hT
  rw [hTB] at hT2
  have HT := Lib.hid hT
  have HT2 := Lib.hid hT2
  clear hT hT2
  have HTA := Lib.hid hTA
  have HTB := Lib.hid hTB
  have hXM := Lib.hid (show x ≤ m by have := hSS.out; omega)
  clear hk1 hrow hrd h5 h6 hp hb hl1 hl2 hfst hTA hTB
  have HC := Lib.hid (ring_cells H1.out.2.1)
  try simp only [List.cons_append, List.nil_append]
  refine wp_region_held_drew (S := fun v => v.cell? ⟨r, 0, none⟩ = some (.slice (some ⟨g, 0, none⟩) m m) ∧ v.cell? ⟨r, 1, none⟩ = some (.int .i64 (f : Int)) ∧ v.cell? ⟨r, 2, none⟩ = some (.int .i64 (k : Int))) (by kernel_rfl) (HC.out) (fun hHeld => ?_)
  clear HC
  generalize u1.drew = ud at *
  refine take_at (some 13) (i := 0) (v := ?_) rfl rfl (by kernel_rfl) (by kernel_rfl) (by kernel_rfl) (fun _ _ _ h => h) (Or.inl ⟨by kernel_rfl, ?_⟩) hHeld ?_
  rotate_left
  · intro wz hSw; obtain ⟨k0, k1, k2⟩ := hSw; go_simp; try (with_reducible rfl)
  try simp only [Act.put, List.setIfInBounds_toArray, List.set_cons_zero, List.set_cons_succ, List.getElem_toArray, List.getElem_cons_succ, List.getElem_cons_zero]
  refine take_at (some 14) (i := 1) (v := ?_) rfl rfl (by kernel_rfl) (by kernel_rfl) (by kernel_rfl) (fun _ _ _ h => h) (Or.inl ⟨by kernel_rfl, ?_⟩) hHeld ?_
  rotate_left
  · intro wz hSw; obtain ⟨k0, k1, k2⟩ := hSw; go_simp; try (with_reducible rfl)
  try simp only [Act.put, List.setIfInBounds_toArray, List.set_cons_zero, List.set_cons_succ, List.getElem_toArray, List.getElem_cons_succ, List.getElem_cons_zero]
  refine take_at (some 15) (i := 2) (v := ?_) rfl rfl (by kernel_rfl) (by kernel_rfl) (by kernel_rfl) (fun _ _ _ h => h) (Or.inl ⟨by kernel_rfl, ?_⟩) hHeld ?_
  rotate_left
  · intro wz hSw; obtain ⟨k0, k1, k2⟩ := hSw; go_simp; try (with_reducible rfl)
  try simp only [Act.put, List.setIfInBounds_toArray, List.set_cons_zero, List.set_cons_succ, List.getElem_toArray, List.getElem_cons_succ, List.getElem_cons_zero]
  refine take_at (some 16) (i := 3) (v := ?_) rfl rfl (by kernel_rfl) (by kernel_rfl) (by kernel_rfl) (fun _ _ _ h => h) (Or.inl ⟨by kernel_rfl, ?_⟩) hHeld ?_
  rotate_left
  · intro wz hSw; obtain ⟨k0, k1, k2⟩ := hSw; go_simp; try (with_reducible rfl)
  try simp only [Act.put, List.setIfInBounds_toArray, List.set_cons_zero, List.set_cons_succ, List.getElem_toArray, List.getElem_cons_succ, List.getElem_cons_zero]
  refine take_at (some 17) (i := 4) (v := ?_) rfl rfl (by kernel_rfl) (by kernel_rfl) (by kernel_rfl) (fun _ _ _ h => h) (Or.inl ⟨by kernel_rfl, ?_⟩) hHeld ?_
  rotate_left
  · intro wz hSw; obtain ⟨k0, k1, k2⟩ := hSw; go_simp; try (with_reducible rfl)
  try simp only [Act.put, List.setIfInBounds_toArray, List.set_cons_zero, List.set_cons_succ, List.getElem_toArray, List.getElem_cons_succ, List.getElem_cons_zero]
  refine take_at (some 18) (i := 5) (v := ?_) rfl rfl (by kernel_rfl) (by kernel_rfl) (by kernel_rfl) (fun _ _ _ h => h) (Or.inl ⟨by kernel_rfl, ?_⟩) hHeld ?_
  rotate_left
  · intro wz hSw; obtain ⟨k0, k1, k2⟩ := hSw; go_simp; try (with_reducible rfl)
  try simp only [Act.put, List.setIfInBounds_toArray, List.set_cons_zero, List.set_cons_succ, List.getElem_toArray, List.getElem_cons_succ, List.getElem_cons_zero]
  refine take_at (some 19) (i := 6) (v := ?_) rfl rfl (by kernel_rfl) (by kernel_rfl) (by kernel_rfl) (fun _ _ _ h => h) (Or.inl ⟨by kernel_rfl, ?_⟩) hHeld ?_
  rotate_left
  · intro wz hSw; obtain ⟨k0, k1, k2⟩ := hSw; go_simp; try (with_reducible rfl)
  try simp only [Act.put, List.setIfInBounds_toArray, List.set_cons_zero, List.set_cons_succ, List.getElem_toArray, List.getElem_cons_succ, List.getElem_cons_zero]
  refine take_at (some 20) (i := 7) (v := ?_) rfl rfl (by kernel_rfl) (by kernel_rfl) (by kernel_rfl) (fun _ _ _ h => h) (Or.inl ⟨by kernel_rfl, ?_⟩) hHeld ?_
  rotate_left
  · intro wz hSw; obtain ⟨k0, k1, k2⟩ := hSw; go_simp; try (with_reducible rfl)
  try simp only [Act.put, List.setIfInBounds_toArray, List.set_cons_zero, List.set_cons_succ, List.getElem_toArray, List.getElem_cons_succ, List.getElem_cons_zero]
  refine take_at (some 21) (i := 8) (v := ?_) rfl rfl (by kernel_rfl) (by kernel_rfl) (by kernel_rfl) (fun _ _ _ h => h) (Or.inl ⟨by kernel_rfl, ?_⟩) hHeld ?_
  rotate_left
  · intro wz hSw; obtain ⟨k0, k1, k2⟩ := hSw; go_simp; try (with_reducible rfl)
  try simp only [Act.put, List.setIfInBounds_toArray, List.set_cons_zero, List.set_cons_succ, List.getElem_toArray, List.getElem_cons_succ, List.getElem_cons_zero]
  refine take_at (some 24) (i := 11) (v := ?_) rfl rfl (by kernel_rfl) (by kernel_rfl) (by kernel_rfl) (fun _ _ _ h => h) (Or.inl ⟨by kernel_rfl, ?_⟩) hHeld ?_
  rotate_left
  · intro wz hSw; obtain ⟨k0, k1, k2⟩ := hSw; go_simp; try (with_reducible rfl)
  try simp only [Act.put, List.setIfInBounds_toArray, List.set_cons_zero, List.set_cons_succ, List.getElem_toArray, List.getElem_cons_succ, List.getElem_cons_zero]
  refine wpAnyH_ready (rs := [9]) (by kernel_rfl) (by simp) (AllReadyH.cons rfl (fun K hK => ?_) AllReadyH.nil)
  rw [if_pos (by kernel_rfl)]
  go_simp
  refine (HP.out).mono ?_
  rintro e uz ⟨rfl, rfl⟩
  try dsimp only
  refine hK.out _ _ (hHeld) (fun hHeld => ?_)
  try simp only [Act.put, List.setIfInBounds_toArray, List.set_cons_zero, List.set_cons_succ, List.getElem_toArray, List.getElem_cons_succ, List.getElem_cons_zero]
  refine take_at (some 23) (i := 10) rfl rfl (by kernel_rfl) (by kernel_rfl) (by kernel_rfl) (fun _ _ _ h => h) (yieldsIf_slice (by kernel_rfl) 30 (.tmp 16) (some (.tmp 22)) none rfl (.slice TA (m - p) (m - p)) HT.out) hHeld ?_
  try simp only [Act.put, List.setIfInBounds_toArray, List.set_cons_zero, List.set_cons_succ, List.getElem_toArray, List.getElem_cons_succ, List.getElem_cons_zero]
  refine wpAnyH_ready (rs := [12]) (by kernel_rfl) (by simp) (AllReadyH.cons rfl (fun K hK => ?_) AllReadyH.nil)
  rw [if_pos (by kernel_rfl)]
  refine op_copy (.tmp 23) (.tmp 24) 30 30 5 rfl Tryz.underlying30 oneInfo TA A (m - p) (m - p) x c rfl rfl g p row 5 H1.out.1 (C.take b) (by rw [HL.out.1, HBN.out]) (fun h => by rw [HL.out.1] at h; rw [← HTA.out, tail_at g 0 m p (by have := HBN.out; omega), Nat.zero_add]) (H1.out.2.2.1.rb.front b) (by rw [HL.out.1, HROW.out]; have := HBN.out; omega) ?_
  rw [HL.out.1]
  obtain ⟨R1, hR1⟩ : ∃ R1, splice row p (C.take b) = R1 := ⟨_, rfl⟩
  rw [hR1] at HAD ⊢
  have HW := Lib.hid (show ∀ v' : World, v' = uz.setRow g (bcells R1) → Bk v' g 5 (bcells R1) ∧ Bk v' r 95 (rcells g m f k) ∧ Rf v' [r, g] A C ∧ Ke [r, g] u v' from fun v' hv => hv ▸ ⟨H1.out.1.row _, H1.out.2.1.rowFar hNE.out _, H1.out.2.2.1.ke ((Ke.refl [g] _).row (by simp) _) (by simp), H1.out.2.2.2.row (by simp) _⟩)
  generalize hv2 : uz.setRow g (bcells R1) = v2
  have HW := Lib.hid (HW.out v2 hv2.symm)
  have HRL := Lib.hid (show R1.length = m by rw [← hR1, length_splice _ _ _ (by rw [HL.out.1, HROW.out]; have := HBN.out; omega), HROW.out])
  clear hv2 hR1
  refine hK.out _ _ (ring_cells HW.out.2.1) (fun hHeld => ?_)
  try simp only [Act.put, List.setIfInBounds_toArray, List.set_cons_zero, List.set_cons_succ, List.getElem_toArray, List.getElem_cons_succ, List.getElem_cons_zero]
  refine take_at (some 5) (i := 13) (v := ?_) rfl rfl (by kernel_rfl) (by kernel_rfl) (by kernel_rfl) (fun _ _ _ h => h) (Or.inl ⟨by kernel_rfl, ?_⟩) hHeld ?_
  rotate_left
  · intro wz hSw; obtain ⟨k0, k1, k2⟩ := hSw; go_simp; try (with_reducible rfl)
  try simp only [Act.put, List.setIfInBounds_toArray, List.set_cons_zero, List.set_cons_succ, List.getElem_toArray, List.getElem_cons_succ, List.getElem_cons_zero]
  refine wpAnyH_done (by kernel_rfl) ?_ _
  clear hHeld
  go_upto_region 3 with (fail)
  have HC2 := Lib.hid (ring_cells HW.out.2.1.drew)
  try simp only [List.cons_append, List.nil_append]
  refine wp_region_held_drew (S := fun v => v.cell? ⟨r, 0, none⟩ = some (.slice (some ⟨g, 0, none⟩) m m) ∧ v.cell? ⟨r, 1, none⟩ = some (.int .i64 (f : Int)) ∧ v.cell? ⟨r, 2, none⟩ = some (.int .i64 (k : Int))) (by kernel_rfl) (HC2.out) (fun hHeld => ?_)
  refine take_at (some 26) (i := 0) (v := ?_) rfl rfl (by kernel_rfl) (by kernel_rfl) (by kernel_rfl) (fun _ _ _ h => h) (Or.inl ⟨by kernel_rfl, ?_⟩) hHeld ?_
  rotate_left
  · intro wz hSw; obtain ⟨k0, k1, k2⟩ := hSw; go_simp; try (with_reducible rfl)
  try simp only [Act.put, List.setIfInBounds_toArray, List.set_cons_zero, List.set_cons_succ, List.getElem_toArray, List.getElem_cons_succ, List.getElem_cons_zero]
  refine take_at (some 27) (i := 1) (v := ?_) rfl rfl (by kernel_rfl) (by kernel_rfl) (by kernel_rfl) (fun _ _ _ h => h) (Or.inl ⟨by kernel_rfl, ?_⟩) hHeld ?_
  rotate_left
  · intro wz hSw; obtain ⟨k0, k1, k2⟩ := hSw; go_simp; try (with_reducible rfl)
  try simp only [Act.put, List.setIfInBounds_toArray, List.set_cons_zero, List.set_cons_succ, List.getElem_toArray, List.getElem_cons_succ, List.getElem_cons_zero]
  refine take_at (some 28) (i := 2) (v := ?_) rfl rfl (by kernel_rfl) (by kernel_rfl) (by kernel_rfl) (fun _ _ _ h => h) (Or.inl ⟨by kernel_rfl, ?_⟩) hHeld ?_
  rotate_left
  · intro wz hSw; obtain ⟨k0, k1, k2⟩ := hSw; go_simp; try (with_reducible rfl)
  try simp only [Act.put, List.setIfInBounds_toArray, List.set_cons_zero, List.set_cons_succ, List.getElem_toArray, List.getElem_cons_succ, List.getElem_cons_zero]
  refine take_at (some 29) (i := 3) (v := ?_) rfl rfl (by kernel_rfl) (by kernel_rfl) (by kernel_rfl) (fun _ _ _ h => h) (Or.inl ⟨by kernel_rfl, ?_⟩) hHeld ?_
  rotate_left
  · intro wz hSw; obtain ⟨k0, k1, k2⟩ := hSw; go_simp; try (with_reducible rfl)
  try simp only [Act.put, List.setIfInBounds_toArray, List.set_cons_zero, List.set_cons_succ, List.getElem_toArray, List.getElem_cons_succ, List.getElem_cons_zero]
  refine take_at (some 30) (i := 4) (v := ?_) rfl rfl (by kernel_rfl) (by kernel_rfl) (by kernel_rfl) (fun _ _ _ h => h) (Or.inl ⟨by kernel_rfl, ?_⟩) hHeld ?_
  rotate_left
  · intro wz hSw; obtain ⟨k0, k1, k2⟩ := hSw; go_simp; try (with_reducible rfl)
  try simp only [Act.put, List.setIfInBounds_toArray, List.set_cons_zero, List.set_cons_succ, List.getElem_toArray, List.getElem_cons_succ, List.getElem_cons_zero]
  refine take_at (some 31) (i := 5) (v := ?_) rfl rfl (by kernel_rfl) (by kernel_rfl) (by kernel_rfl) (fun _ _ _ h => h) (Or.inl ⟨by kernel_rfl, ?_⟩) hHeld ?_
  rotate_left
  · intro wz hSw; obtain ⟨k0, k1, k2⟩ := hSw; go_simp; try (with_reducible rfl)
  try simp only [Act.put, List.setIfInBounds_toArray, List.set_cons_zero, List.set_cons_succ, List.getElem_toArray, List.getElem_cons_succ, List.getElem_cons_zero]
  refine take_at (some 32) (i := 6) rfl rfl (by kernel_rfl) (by kernel_rfl) (by kernel_rfl) (fun _ _ _ h => h) (yieldsIf_slice (by kernel_rfl) 30 (.tmp 30) (some (.tmp 31)) none rfl (.slice TB (x - b) (c - b)) HT2.out) hHeld ?_
  try simp only [Act.put, List.setIfInBounds_toArray, List.set_cons_zero, List.set_cons_succ, List.getElem_toArray, List.getElem_cons_succ, List.getElem_cons_zero]
  refine wpAnyH_ready (rs := [7]) (by kernel_rfl) (by simp) (AllReadyH.cons rfl (fun K hK => ?_) AllReadyH.nil)
  rw [if_pos (by kernel_rfl)]
  refine op_copy (.tmp 29) (.tmp 32) 30 30 5 rfl Tryz.underlying30 oneInfo (some ⟨g, 0, none⟩) TB m m (x - b) (c - b) rfl rfl g 0 R1 5 HW.out.1.drew (C.drop b) (by rw [HL.out.2]; have := hXM.out; omega) (fun _ => rfl) (HTB.out ▸ (show Rb v2.drew v2.heap.size A C from HW.out.2.2.1.rb).tail b (by rw [hCLL.out]; exact hxc)) (by rw [HL.out.2, HRL.out]; have := hXM.out; omega) ?_
  obtain ⟨R2, hR2⟩ : ∃ R2, splice R1 0 (C.drop b) = R2 := ⟨_, rfl⟩
  rw [hR2] at HAD ⊢
  have HW2 := Lib.hid (show Bk (v2.drew.setRow g (bcells R2)) g 5 (bcells R2) ∧ Bk (v2.drew.setRow g (bcells R2)) r 95 (rcells g m f k) ∧ Ke [r, g] u (v2.drew.setRow g (bcells R2)) from ⟨HW.out.1.drew.row _, HW.out.2.1.drew.rowFar hNE.out _, HW.out.2.2.2.drew.row (by simp) _⟩)
  generalize v2.drew.setRow g (bcells R2) = v3 at HW2 ⊢
  clear hR2
  refine hK.out _ _ (ring_cells HW2.out.2.1) (fun hHeld => ?_)
  try simp only [Act.put, List.setIfInBounds_toArray, List.set_cons_zero, List.set_cons_succ, List.getElem_toArray, List.getElem_cons_succ, List.getElem_cons_zero]
  refine wpAnyH_done (by kernel_rfl) ?_ _
  clear hHeld
  have hc2 := (ring_cells HW2.out.2.1).2.2
  have hz2 := (ring_free HW2.out.2.1).2
  obtain ⟨y1, y2⟩ := Y.out
  go_wp2_with fail
  go_ret
  refine ⟨rfl, ⟨hNE.out, h6m, R2, f, HAD.out.1.trans HROW.out, HAD.out.2, HW2.out.1.far (Ne.symm hNE.out) _, ?_⟩, HW2.out.2.2.set (p := ⟨r, 2, none⟩) (by simp) _⟩
  rw [List.length_append, hKK.out, hCLL.out, hKX.out]
  exact ring_many HW2.out.2.1 _
end Go.Proofs.YtndamiocmdnenaaGreat
