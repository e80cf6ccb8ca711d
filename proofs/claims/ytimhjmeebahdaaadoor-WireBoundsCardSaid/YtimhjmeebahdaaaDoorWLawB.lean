/- The walk of WireBounds. (Written by gen_wlaws.py.) -/
import Derived.Test.YtimhjmeebahdaaaDoorWHead
import Derived.Test.YtimhjmeebahdaaaDoorBq
import Derived.Test.YtimhjmeebahdaaaDoorOpen
import Derived.Lib.Bytealg
namespace Go.Proofs.YtimhjmeebahdaaaDoor
set_option linter.unusedVariables false
set_option linter.unusedSimpArgs false
open Go.RowKit

theorem right_cut (k n m : Int) (a b : ByteArray) (h : rightM ⟨k, a, b, n, m⟩ = true) (j : Nat) : rightM ⟨k, a.extract 0 j, b, n, m⟩ = true := by
  have hsz : (a.extract 0 j).size ≤ a.size := by rw [ByteArray.size_extract]; omega
  obtain ⟨h1, h2, h3, h4, h5, h6⟩ := right_parts _ h
  have hl : a.toList.isEmpty = true → (a.extract 0 j).toList.isEmpty = true := fun he => by
    have e := bs_nil_eq a he
    have h0 : a.size = 0 := by rw [e, bs_size]; rfl
    have : (a.extract 0 j).size = 0 := by omega
    rw [ByteArray.toList_eq, List.isEmpty_iff]
    exact List.eq_nil_of_length_eq_zero this
  unfold rightM onlyB cntB at h ⊢
  simp only [Bool.and_eq_true, Bool.or_eq_true, decide_eq_true_eq] at h ⊢
  obtain ⟨⟨⟨⟨⟨g1, ⟨⟨g2, g3⟩, g4⟩, g5⟩, g6⟩, g7⟩, g8⟩, g9⟩ := h
  exact ⟨⟨⟨⟨⟨g1, ⟨⟨g2.imp id hl, g3⟩, g4⟩, g5⟩, by omega⟩, g7⟩, g8⟩, g9⟩
theorem right_half (k n m : Int) (a b : ByteArray) (h : rightM ⟨k, a, b, n, m⟩ = true) : rightM ⟨k, a, b, n.tdiv 2, m⟩ = true := by
  unfold rightM onlyB cntB at h ⊢
  simp only [Bool.and_eq_true, Bool.or_eq_true, decide_eq_true_eq, beq_iff_eq] at h ⊢
  obtain ⟨⟨⟨⟨⟨g1, ⟨⟨g2, g3⟩, g4⟩, g5⟩, g6⟩, g7⟩, g8⟩, g9⟩ := h
  have e : n.tdiv 2 = n / 2 := by rw [Int.tdiv_eq_ediv_of_nonneg g8.1]
  rw [e]
  exact ⟨⟨⟨⟨⟨g1, ⟨⟨g2, g3⟩, g4.imp id (fun h => by omega)⟩, g5⟩, g6⟩, g7⟩, by omega⟩, g9⟩
theorem right_long (k n m : Int) (a b : ByteArray) (h : 64 < a.size) : rightM ⟨k, a, b, n, m⟩ = false := by
  unfold rightM
  have : decide (a.size ≤ 64) = false := decide_eq_false (by omega)
  simp only [this]
  simp
theorem right_n (k n m : Int) (a b : ByteArray) (h : cntB n = false) : rightM ⟨k, a, b, n, m⟩ = false := by
  unfold rightM
  simp [h]
theorem right_m (k n m : Int) (a b : ByteArray) (h : cntB m = false) : rightM ⟨k, a, b, n, m⟩ = false := by
  unfold rightM
  simp [h]

set_option maxRecDepth 100000 in
set_option maxHeartbeats 4000000 in
theorem walk_WireBounds (x : Mg) (cc : Int) (W : World) (wa : x.a.size ≤ 140737488355328) (wb : x.b.size ≤ 140737488355328) (wc : (Lit.int .u8 cc).wf = true) (hG : Gw W) :
    Calls Tryd.prog 7 #[.agg x.cells, .int .u8 cc] W fun e w' => e = .returned (.bool true) ∧ Below W.heap.size W w' := by
  obtain ⟨u, hu, rfl⟩ : ∃ u : Nat, u < 256 ∧ cc = (u : Int) := by
    have e1 : IntKind.u8.min = 0 := by decide
    have e2 : IntKind.u8.max = 255 := by decide
    simp only [Lit.wf, e1, e2, Bool.and_eq_true, decide_eq_true_eq] at wc
    exact ⟨cc.toNat, by omega, by omega⟩
  have H0 := Lib.hid (MgAt.new (B := W.heap.size) (w := W) (x := x) hG rfl)
  have HGR := Lib.hid (fun u => great_ok x u wa wb)
  have HRT := Lib.hid (fun u (h : Gw u) => right_ok x u h wa wb)
  obtain ⟨gr, hgr⟩ : ∃ gr, decide (9000 < x.a.size + x.b.size) = gr := ⟨_, rfl⟩
  have HSZ := Lib.hid (show gr = false → x.a.size ≤ 9000 ∧ x.b.size ≤ 9000 from fun h => by rw [← hgr] at h; have := of_decide_eq_false h; omega)
  rw [hgr] at HGR
  obtain ⟨rt, hrt⟩ : ∃ rt, rightM x = rt := ⟨_, rfl⟩
  have HR := Lib.hid hrt
  rw [hrt] at HRT
  clear wa wb wc hG hgr hrt
  obtain ⟨k, a, b, n, m⟩ := x
  go_enter Tryd.func7, Tryd.ntmps7
  go_wp2_with fail
  refine (whead_ok _ H0.out.glob).mono ?_
  rintro e w1 ⟨rfl, hb1⟩
  have H1 := Lib.hid (H0.out.on hb1 (Nat.le_refl _))
  clear hb1 H0
  have cs := H1.out.c
  go_wp2_with fail
  clear cs
  refine (HGR.out _).mono ?_
  rintro e w2 ⟨rfl, hb2⟩
  have H2 := Lib.hid (H1.out.on hb2 (Nat.le_refl _))
  clear hb2 H1
  cases gr with
  | true =>
    have HB := H2.out.b
    go_wp2_with fail
    go_ret
    exact ⟨rfl, HB⟩
  | false =>
  obtain ⟨sa, sb⟩ := HSZ.out rfl
  have cs := H2.out.c
  go_wp2_with fail
  clear cs
  refine (HRT.out _ H2.out.glob).mono ?_
  rintro e w3 ⟨rfl, hb3⟩
  have H3 := Lib.hid (H2.out.on hb3 (Nat.le_refl _))
  clear hb3 H2
  cases rt with
  | false =>
    have HB := H3.out.b
    go_wp2_with fail
    go_ret
    exact ⟨rfl, HB⟩
  | true =>
  have H5 := Lib.hid (Bq.of H3.out)
  clear H3
  have cs := H5.out.c W.heap.size (.head _)
  go_upto_region 5 with (fail)
  clear cs
  have H6 := Lib.hid (show Bq W [(w3.heap.size, ⟨k, a, b, n, m⟩), (W.heap.size, ⟨k, a, b, n, m⟩)] (w3.alloc (.cells #[.int .i64 k, .string a, .string b, .int .i64 n, .int .i64 m] 23)) from H5.out.new _)
  obtain ⟨g6, hg6⟩ : ∃ g, w3.heap.size = g := ⟨_, rfl⟩
  generalize w3.alloc (.cells #[.int .i64 k, .string a, .string b, .int .i64 n, .int .i64 m] 23) = w4 at H6 ⊢
  rw [hg6] at H6 ⊢
  clear H5 hg6
  have cs := H6.out.c W.heap.size (.tail _ (.head _))
  have cg := H6.out.c g6 (.head _)
  have hf := (H6.out.row _ (.head _)).frozen 1
  simp only at hf
  go_upto_region 6 with (fail)
  have H7 := Lib.hid (show Bq W [(g6, ⟨k, a.extract 0 ((if a.size < u then (a.size : Int) else (u : Int)).toNat), b, n, m⟩), (W.heap.size, ⟨k, a, b, n, m⟩)] (w4.setCell ⟨g6, 1, none⟩ (.string (a.extract 0 ((if a.size < u then (a.size : Int) else (u : Int)).toNat)))) from H6.out.set 1 _ rfl)
  have HRA := Lib.hid (right_cut k n m a b HR.out ((if a.size < u then (a.size : Int) else (u : Int)).toNat))
  generalize w4.setCell ⟨g6, 1, none⟩ (.string (a.extract 0 ((if a.size < u then (a.size : Int) else (u : Int)).toNat))) = w5 at H7 ⊢
  have HSA := Lib.hid (show (a.extract 0 ((if a.size < u then (a.size : Int) else (u : Int)).toNat)).size ≤ a.size by rw [ByteArray.size_extract]; omega)
  generalize a.extract 0 ((if a.size < u then (a.size : Int) else (u : Int)).toNat) = aj at H7 HRA HSA ⊢
  generalize (if a.size < u then (a.size : Int) else (u : Int)) = jj at ⊢
  clear H6 cs cg hf
  obtain ⟨_, _, ha6, hb6, ⟨hn0, hn1⟩, _⟩ := right_parts _ HR.out
  simp only at ha6 hb6 hn0 hn1
  have cs := H7.out.c W.heap.size (.tail _ (.head _))
  go_upto_region 7 with (fail)
  clear cs
  have H8 := Lib.hid (show Bq W [(w5.heap.size, ⟨k, a, b, n, m⟩), (g6, ⟨k, aj, b, n, m⟩), (W.heap.size, ⟨k, a, b, n, m⟩)] (w5.alloc (.cells #[.int .i64 k, .string a, .string b, .int .i64 n, .int .i64 m] 23)) from H7.out.new _)
  obtain ⟨g7, hg⟩ : ∃ g, w5.heap.size = g := ⟨_, rfl⟩
  generalize w5.alloc (.cells #[.int .i64 k, .string a, .string b, .int .i64 n, .int .i64 m] 23) = w6 at H8 ⊢
  rw [hg] at H8 ⊢
  clear H7 hg
  have cs := H8.out.c W.heap.size (.tail _ (.tail _ (.head _)))
  have cg := H8.out.c g7 (.head _)
  have hf := (H8.out.row _ (.head _)).frozen 3
  simp only at hf
  go_upto_region 8 with (fail)
  have H9 := Lib.hid (show Bq W [(g7, ⟨k, a, b, n / 2, m⟩), (g6, ⟨k, aj, b, n, m⟩), (W.heap.size, ⟨k, a, b, n, m⟩)] (w6.setCell ⟨g7, 3, none⟩ (.int .i64 (n / 2))) from H8.out.set 3 _ rfl)
  generalize w6.setCell ⟨g7, 3, none⟩ (.int .i64 (n / 2)) = w7 at H9 ⊢
  clear H8 cs cg hf
  have cs := H9.out.c W.heap.size (.tail _ (.tail _ (.head _)))
  go_upto_region 9 with (fail)
  clear cs
  have H10 := Lib.hid (show Bq W [(w7.heap.size, ⟨k, a, b, n, m⟩), (g7, ⟨k, a, b, n / 2, m⟩), (g6, ⟨k, aj, b, n, m⟩), (W.heap.size, ⟨k, a, b, n, m⟩)] (w7.alloc (.cells #[.int .i64 k, .string a, .string b, .int .i64 n, .int .i64 m] 23)) from H9.out.new _)
  obtain ⟨g9, hg⟩ : ∃ g, w7.heap.size = g := ⟨_, rfl⟩
  generalize w7.alloc (.cells #[.int .i64 k, .string a, .string b, .int .i64 n, .int .i64 m] 23) = w8 at H10 ⊢
  rw [hg] at H10 ⊢
  clear H9 hg
  obtain ⟨zc, hzc⟩ : ∃ zc, bcells (List.replicate 65 0) = zc := ⟨_, rfl⟩
  obtain ⟨cz, hcz⟩ : ∃ cz : ByteArray, bs (List.replicate 65 0) = cz := ⟨_, rfl⟩
  have HCZ := Lib.hid (show cz.size = 65 by rw [← hcz, bs_size]; rfl)
  have hmk := mk_bytes (P := Tryd.prog) w8 24 5 Tryd.underlying24 byInfo 65 (by omega) (bcells (List.replicate 65 0)) (by unfold bcells; rw [List.map_replicate, List.toArray_replicate]; rfl)
  have hst : (convert 24 9 (.slice (some ⟨w8.heap.size, 0, none⟩) 65 65)).run Tryd.prog (w8.alloc (.cells (bcells (List.replicate 65 0)) 5)) = .ok (.string (bs (List.replicate 65 0))) _ := str_of (Rb.new w8 5 (List.replicate 65 0)) 24 5 9 Tryd.underlying24 Tryd.underlying5 Tryd.underlying9 65 65 rfl
  rw [hzc] at hmk hst
  rw [hcz] at hst
  simp only [Int.cast_ofNat_Int] at hmk
  have H11 := Lib.hid (show Bq W [(g9, ⟨k, a, b, n, m⟩), (g7, ⟨k, a, b, n / 2, m⟩), (g6, ⟨k, aj, b, n, m⟩), (W.heap.size, ⟨k, a, b, n, m⟩)] (w8.alloc (.cells zc 5)) from H10.out.on ((Below.refl w8.heap.size w8).alloc (Nat.le_refl _) _))
  clear hzc hcz H10
  have cg := H11.out.c g9 (.head _)
  have hf := (H11.out.row _ (.head _)).frozen 1
  simp only at hf
  go_upto_region 10 with (fail)
  clear hmk hst
  have H12 := Lib.hid (show Bq W [(g9, ⟨k, cz, b, n, m⟩), (g7, ⟨k, a, b, n / 2, m⟩), (g6, ⟨k, aj, b, n, m⟩), (W.heap.size, ⟨k, a, b, n, m⟩)] ((w8.alloc (.cells zc 5)).setCell ⟨g9, 1, none⟩ (.string cz)) from H11.out.set 1 _ rfl)
  generalize (w8.alloc (.cells zc 5)).setCell ⟨g9, 1, none⟩ (.string cz) = w9 at H12 ⊢
  clear H11 cg hf
  have cs := H12.out.c W.heap.size (.tail _ (.tail _ (.tail _ (.head _))))
  go_upto_region 11 with (fail)
  clear cs
  have H13 := Lib.hid (show Bq W [(w9.heap.size, ⟨k, a, b, n, m⟩), (g9, ⟨k, cz, b, n, m⟩), (g7, ⟨k, a, b, n / 2, m⟩), (g6, ⟨k, aj, b, n, m⟩), (W.heap.size, ⟨k, a, b, n, m⟩)] (w9.alloc (.cells #[.int .i64 k, .string a, .string b, .int .i64 n, .int .i64 m] 23)) from H12.out.new _)
  obtain ⟨g11, hg⟩ : ∃ g, w9.heap.size = g := ⟨_, rfl⟩
  generalize w9.alloc (.cells #[.int .i64 k, .string a, .string b, .int .i64 n, .int .i64 m] 23) = w10 at H13 ⊢
  rw [hg] at H13 ⊢
  clear H12 hg
  have cs := H13.out.c W.heap.size (.tail _ (.tail _ (.tail _ (.tail _ (.head _)))))
  have cg := H13.out.c g11 (.head _)
  have hf := (H13.out.row _ (.head _)).frozen 3
  simp only at hf
  go_upto_region 12 with (fail)
  have H14 := Lib.hid (show Bq W [(g11, ⟨k, a, b, 1099511627777, m⟩), (g9, ⟨k, cz, b, n, m⟩), (g7, ⟨k, a, b, n / 2, m⟩), (g6, ⟨k, aj, b, n, m⟩), (W.heap.size, ⟨k, a, b, n, m⟩)] (w10.setCell ⟨g11, 3, none⟩ (.int .i64 1099511627777)) from H13.out.set 3 _ rfl)
  generalize w10.setCell ⟨g11, 3, none⟩ (.int .i64 1099511627777) = w11 at H14 ⊢
  clear H13 cs cg hf
  have cs := H14.out.c W.heap.size (.tail _ (.tail _ (.tail _ (.tail _ (.head _)))))
  go_upto_region 13 with (fail)
  clear cs
  have H15 := Lib.hid (show Bq W [(w11.heap.size, ⟨k, a, b, n, m⟩), (g11, ⟨k, a, b, 1099511627777, m⟩), (g9, ⟨k, cz, b, n, m⟩), (g7, ⟨k, a, b, n / 2, m⟩), (g6, ⟨k, aj, b, n, m⟩), (W.heap.size, ⟨k, a, b, n, m⟩)] (w11.alloc (.cells #[.int .i64 k, .string a, .string b, .int .i64 n, .int .i64 m] 23)) from H14.out.new _)
  obtain ⟨g13, hg⟩ : ∃ g, w11.heap.size = g := ⟨_, rfl⟩
  generalize w11.alloc (.cells #[.int .i64 k, .string a, .string b, .int .i64 n, .int .i64 m] 23) = w12 at H15 ⊢
  rw [hg] at H15 ⊢
  clear H14 hg
  have cs := H15.out.c W.heap.size (.tail _ (.tail _ (.tail _ (.tail _ (.tail _ (.head _))))))
  have cg := H15.out.c g13 (.head _)
  have hf := (H15.out.row _ (.head _)).frozen 4
  simp only at hf
  go_upto_region 14 with (fail)
  have H16 := Lib.hid (show Bq W [(g13, ⟨k, a, b, n, -1⟩), (g11, ⟨k, a, b, 1099511627777, m⟩), (g9, ⟨k, cz, b, n, m⟩), (g7, ⟨k, a, b, n / 2, m⟩), (g6, ⟨k, aj, b, n, m⟩), (W.heap.size, ⟨k, a, b, n, m⟩)] (w12.setCell ⟨g13, 4, none⟩ (.int .i64 (-1))) from H15.out.set 4 _ rfl)
  generalize w12.setCell ⟨g13, 4, none⟩ (.int .i64 (-1)) = w13 at H16 ⊢
  clear H15 cs cg hf
  have HRN := Lib.hid (show rightM ⟨k, a, b, n / 2, m⟩ = true from by have h := right_half k n m a b HR.out; rwa [Int.tdiv_eq_ediv_of_nonneg hn0] at h)
  have HS := Lib.hid (show a.size ≤ 64 ∧ b.size ≤ 64 ∧ aj.size ≤ 64 ∧ cz.size ≤ 65 from ⟨ha6, hb6, Nat.le_trans HSA.out ha6, Nat.le_of_eq HCZ.out⟩)
  have HC0 := Lib.hid (fun u (h : Gw u) => right_ok ⟨k, aj, b, n, m⟩ u h (show aj.size ≤ 140737488355328 by have := HS.out; omega) (show b.size ≤ 140737488355328 by have := HS.out; omega))
  rw [HRA.out] at HC0
  have HC1 := Lib.hid (fun u (h : Gw u) => right_ok ⟨k, a, b, n / 2, m⟩ u h (show a.size ≤ 140737488355328 by have := HS.out; omega) (show b.size ≤ 140737488355328 by have := HS.out; omega))
  rw [HRN.out] at HC1
  have HC2 := Lib.hid (fun u (h : Gw u) => right_ok ⟨k, cz, b, n, m⟩ u h (show cz.size ≤ 140737488355328 by have := HS.out; omega) (show b.size ≤ 140737488355328 by have := HS.out; omega))
  rw [(right_long k n m cz b (by rw [HCZ.out]; decide))] at HC2
  have HC3 := Lib.hid (fun u (h : Gw u) => right_ok ⟨k, a, b, 1099511627777, m⟩ u h (show a.size ≤ 140737488355328 by have := HS.out; omega) (show b.size ≤ 140737488355328 by have := HS.out; omega))
  rw [(right_n k _ m a b (by decide))] at HC3
  have HC4 := Lib.hid (fun u (h : Gw u) => right_ok ⟨k, a, b, n, -1⟩ u h (show a.size ≤ 140737488355328 by have := HS.out; omega) (show b.size ≤ 140737488355328 by have := HS.out; omega))
  rw [(right_m k n _ a b (by decide))] at HC4
  have HC5 := Lib.hid (fun u (h : Gw u) => wput_ok ⟨k, cz, b, n, m⟩ u h (show cz.size ≤ 140737488355328 by have := HS.out; omega) (show b.size ≤ 140737488355328 by have := HS.out; omega))
  rw [putW_none _ (right_long k n m cz b (by rw [HCZ.out]; decide))] at HC5
  clear HS HRN HRA HCZ HSA ha6 hb6
  have cs := H16.out.c g6 (.tail _ (.tail _ (.tail _ (.tail _ (.head _)))))
  go_wp2_with fail
  clear cs
  refine (HC0.out _ H16.out.glob).mono ?_
  rintro e u0 ⟨rfl, hb⟩
  have K0 := Lib.hid (H16.out.on hb)
  clear hb H16 HC0
  have cs := K0.out.c g7 (.tail _ (.tail _ (.tail _ (.head _))))
  go_wp2_with fail
  clear cs
  refine (HC1.out _ K0.out.glob).mono ?_
  rintro e u1 ⟨rfl, hb⟩
  have K1 := Lib.hid (K0.out.on hb)
  clear hb K0 HC1
  have cs := K1.out.c g9 (.tail _ (.tail _ (.head _)))
  go_wp2_with fail
  clear cs
  refine (HC2.out _ K1.out.glob).mono ?_
  rintro e u2 ⟨rfl, hb⟩
  have K2 := Lib.hid (K1.out.on hb)
  clear hb K1 HC2
  have cs := K2.out.c g11 (.tail _ (.head _))
  go_wp2_with fail
  clear cs
  refine (HC3.out _ K2.out.glob).mono ?_
  rintro e u3 ⟨rfl, hb⟩
  have K3 := Lib.hid (K2.out.on hb)
  clear hb K2 HC3
  have cs := K3.out.c g13 (.head _)
  go_wp2_with fail
  clear cs
  refine (HC4.out _ K3.out.glob).mono ?_
  rintro e u4 ⟨rfl, hb⟩
  have K4 := Lib.hid (K3.out.on hb)
  clear hb K3 HC4
  have cs := K4.out.c g9 (.tail _ (.tail _ (.head _)))
  go_wp2_with fail
  clear cs
  refine (HC5.out _ K4.out.glob).mono ?_
  rintro e u5 ⟨A5, c5, rfl, ho, hb⟩
  have K5 := Lib.hid (K4.out.on hb)
  clear hb K4 HC5
  have HB := K5.out.b
  simp only [List.length_nil]
  go_wp2_with fail
  go_ret
  exact ⟨rfl, HB⟩
end Go.Proofs.YtimhjmeebahdaaaDoor
