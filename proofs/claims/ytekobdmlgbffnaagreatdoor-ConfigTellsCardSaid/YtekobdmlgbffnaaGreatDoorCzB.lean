/- The document's own: with: the line of a token. (Written by gen_cza.py.) -/
import Derived.Test.YtekobdmlgbffnaaGreatDoorG12
import Derived.Test.YtekobdmlgbffnaaGreatDoorG4
namespace Go.Proofs.YtekobdmlgbffnaaGreatDoor
set_option linter.unusedVariables false
set_option maxRecDepth 100000
set_option linter.unusedSimpArgs false
open Go.RowKit

set_option maxRecDepth 100000 in
set_option maxHeartbeats 16000000 in
theorem rwith_token (x : Cv) (T : List Tv) (y : Tv) (hts : x.ts = T ++ [y]) (b o c : Nat) (nm sx ux : List UInt8) (w : World) (h : RC w x) (hn9' : x.ts.length ≤ 1099511626) (hfew : y.t.nets.length ≤ 1099511626 ∧ y.t.toks.length ≤ 1099511626) (hlt : b < w.heap.size)
    (hrow : ∀ j z, [wToken, nm, sx, ux][j]? = some z → w.cell? ⟨b, o + j, none⟩ = some (.string (bs z)) ∧ z.length ≤ 1099511627776) :
    Calls Tryz.prog 36 #[.agg (ccs x), .bool false, .slice (some ⟨b, o, none⟩) 4 c] w (WiP x false [wToken, nm, sx, ux] w) := by
  obtain ⟨a0, a1, a2, a3, ts, A, c1⟩ := x
  obtain rfl : ts = T ++ [y] := hts
  have HRC := Lib.hid h
  have hc0 : w.cell? ⟨b, o, none⟩ = some (.string (bs wToken)) := (hrow 0 _ rfl).1
  have hw := with_eq (Cv.cg ⟨a0, a1, a2, a3, T ++ [y], A, c1⟩) false wToken [nm, sx, ux] rfl
  have hc1 : w.cell? ⟨b, o + 1, none⟩ = some (.string (bs nm)) := (hrow 1 _ rfl).1
  have hc2 : w.cell? ⟨b, o + 2, none⟩ = some (.string (bs sx)) := (hrow 2 _ rfl).1
  have hc3 : w.cell? ⟨b, o + 3, none⟩ = some (.string (bs ux)) := (hrow 3 _ rfl).1
  have HZ1 := Lib.hid (hrow 1 _ rfl).2
  have HZ2 := Lib.hid (hrow 2 _ rfl).2
  have HZ3 := Lib.hid (hrow 3 _ rfl).2
  have hq : ((bs wToken).toList == [116, 105, 109, 101, 115]) = false := is_times wToken
  have hq2 : ((bs wToken).toList == [116, 101, 110, 97, 110, 116]) = false := is_tenant wToken
  have hq3 : ((bs wToken).toList == [110, 101, 116]) = false := is_net wToken
  have hq4 : ((bs wToken).toList == [116, 111, 107, 101, 110]) = true := is_token wToken
  have HW := Lib.hid hw
  clear hrow hw
  obtain ⟨m, hm⟩ : ∃ m, T.length = m := ⟨_, rfl⟩
  have HM := Lib.hid hm
  have hn1 : (T ++ [y]).length = m + 1 := by rw [List.length_append, hm]; rfl
  have hn9m : m + 1 ≤ 1099511626 := by rw [← hn1]; exact hn9'
  have HN9 := Lib.hid hn9m
  have hcap : m + 1 ≤ c1 := by rw [← hn1]; exact h.f.cap
  have HCAP := Lib.hid (And.intro hcap h.f.max)
  obtain ⟨bA, oA, rfl, hbA, hcA⟩ : ∃ g o', A = some ⟨g, o', none⟩ ∧ g < w.heap.size ∧ ∀ j, j < 5 → w.cell? ⟨g, o' + m * 5 + j, none⟩ = (tcs y)[j]? := by
    have hr : Rw 5 tcs w A (T ++ [y]) := h.r.r
    rcases hr with hr | ⟨g, o', e, hg, hc⟩
    · simp at hr
    · refine ⟨g, o', e, hg, fun j hj => ?_⟩
      have := hc m (by rw [List.length_append, hm]; simp) j hj
      rw [this]
      simp [← hm]
  have HN1 := Lib.hid hn1
  have HTY := Lib.hid (show RT1 w y from h.r.each y (List.mem_append_right _ (List.mem_singleton.2 rfl)))
  obtain ⟨B, hB⟩ : ∃ B, bs wToken = B := ⟨_, rfl⟩
  rw [hB] at hq hq2 hq3 hq4 hc0
  obtain ⟨Bn, hBn⟩ : ∃ B, bs nm = B := ⟨_, rfl⟩
  have HBn := Lib.hid hBn
  rw [hBn] at hc1
  clear hBn
  obtain ⟨Bs, hBs⟩ : ∃ B, bs sx = B := ⟨_, rfl⟩
  have HBs := Lib.hid hBs
  rw [hBs] at hc2
  clear hBs
  obtain ⟨Bu, hBu⟩ : ∃ B, bs ux = B := ⟨_, rfl⟩
  have HBu := Lib.hid hBu
  rw [hBu] at hc3
  clear hBu
  obtain ⟨⟨tn, ta, tb, tnl, tkl⟩, TA, tc, TK, tk⟩ := y
  obtain ⟨nk, hnk⟩ : ∃ k, tnl.length = k := ⟨_, rfl⟩
  obtain ⟨kk, hkk⟩ : ∃ k, tkl.length = k := ⟨_, rfl⟩
  have HNK := Lib.hid hnk
  have HKK := Lib.hid hkk
  have HFW := Lib.hid (show nk ≤ 1099511626 ∧ kk ≤ 1099511626 from ⟨hnk ▸ hfew.1, hkk ▸ hfew.2⟩)
  clear hfew
  have hcA0 := hcA 0 (by decide); have hcA1 := hcA 1 (by decide); have hcA2 := hcA 2 (by decide); have hcA3 := hcA 3 (by decide); have hcA4 := hcA 4 (by decide)
  simp only [tcs, hnk, hkk] at hcA3 hcA4
  dsimp only [tcs] at hcA0 hcA1 hcA2
  have hq9 : (m : Int) + 1 ≠ 0 := by omega
  have hwr : wrap64 (m : Int) = (m : Int) := by unfold wrap64; omega
  have hm1 : (m : Int) < (m : Int) + 1 := by omega
  have hm0 : (0 : Int) ≤ (m : Int) := Int.natCast_nonneg m
  clear hB hn9' hcA h hcap hnk hkk hm
  simp only [ccs, hn1]
  have HB0 := Lib.hid (show Bk ((w.alloc (.cells #[.int .i64 a0, .int .i64 a1, .int .i64 a2, .int .i64 a3, .slice (some ⟨bA, oA, none⟩) (m + 1) c1] 24)).alloc (.cells #[.int .i64 0, .int .i64 0, .int .i64 0, .int .i64 0, .slice none 0 0] 24)) w.heap.size 24 #[.int .i64 a0, .int .i64 a1, .int .i64 a2, .int .i64 a3, .slice (some ⟨bA, oA, none⟩) (m + 1) c1] from (Bk.new w _ _).alloc _)
  have HB1 := Lib.hid (show Bk ((w.alloc (.cells #[.int .i64 a0, .int .i64 a1, .int .i64 a2, .int .i64 a3, .slice (some ⟨bA, oA, none⟩) (m + 1) c1] 24)).alloc (.cells #[.int .i64 0, .int .i64 0, .int .i64 0, .int .i64 0, .slice none 0 0] 24)) (w.heap.size + 1) 24 #[.int .i64 0, .int .i64 0, .int .i64 0, .int .i64 0, .slice none 0 0] by have := Bk.new (w.alloc (.cells #[.int .i64 a0, .int .i64 a1, .int .i64 a2, .int .i64 a3, .slice (some ⟨bA, oA, none⟩) (m + 1) c1] 24)) 24 #[.int .i64 0, .int .i64 0, .int .i64 0, .int .i64 0, .slice none 0 0]; rwa [World.size_alloc] at this)
  have HLO := Lib.hid (show Below w.heap.size w ((w.alloc (.cells #[.int .i64 a0, .int .i64 a1, .int .i64 a2, .int .i64 a3, .slice (some ⟨bA, oA, none⟩) (m + 1) c1] 24)).alloc (.cells #[.int .i64 0, .int .i64 0, .int .i64 0, .int .i64 0, .slice none 0 0] 24)) from ((Below.refl w.heap.size w).alloc (Nat.le_refl _) _).alloc (by rw [World.size_alloc]; omega) _)
  have c0w : ((w.alloc (.cells #[.int .i64 a0, .int .i64 a1, .int .i64 a2, .int .i64 a3, .slice (some ⟨bA, oA, none⟩) (m + 1) c1] 24)).alloc (.cells #[.int .i64 0, .int .i64 0, .int .i64 0, .int .i64 0, .slice none 0 0] 24)).cell? ⟨b, o, none⟩ = some (.string B) := (HLO.out.cell (p := ⟨b, o, none⟩) hlt).trans hc0
  have c1w : ((w.alloc (.cells #[.int .i64 a0, .int .i64 a1, .int .i64 a2, .int .i64 a3, .slice (some ⟨bA, oA, none⟩) (m + 1) c1] 24)).alloc (.cells #[.int .i64 0, .int .i64 0, .int .i64 0, .int .i64 0, .slice none 0 0] 24)).cell? ⟨b, o + 1, none⟩ = some (.string Bn) := (HLO.out.cell (p := ⟨b, o + 1, none⟩) hlt).trans hc1
  have c2w : ((w.alloc (.cells #[.int .i64 a0, .int .i64 a1, .int .i64 a2, .int .i64 a3, .slice (some ⟨bA, oA, none⟩) (m + 1) c1] 24)).alloc (.cells #[.int .i64 0, .int .i64 0, .int .i64 0, .int .i64 0, .slice none 0 0] 24)).cell? ⟨b, o + 2, none⟩ = some (.string Bs) := (HLO.out.cell (p := ⟨b, o + 2, none⟩) hlt).trans hc2
  have c3w : ((w.alloc (.cells #[.int .i64 a0, .int .i64 a1, .int .i64 a2, .int .i64 a3, .slice (some ⟨bA, oA, none⟩) (m + 1) c1] 24)).alloc (.cells #[.int .i64 0, .int .i64 0, .int .i64 0, .int .i64 0, .slice none 0 0] 24)).cell? ⟨b, o + 3, none⟩ = some (.string Bu) := (HLO.out.cell (p := ⟨b, o + 3, none⟩) hlt).trans hc3
  have e0w : ((w.alloc (.cells #[.int .i64 a0, .int .i64 a1, .int .i64 a2, .int .i64 a3, .slice (some ⟨bA, oA, none⟩) (m + 1) c1] 24)).alloc (.cells #[.int .i64 0, .int .i64 0, .int .i64 0, .int .i64 0, .slice none 0 0] 24)).cell? ⟨bA, oA + m * 5, none⟩ = _ := (HLO.out.cell (p := ⟨bA, oA + m * 5, none⟩) hbA).trans hcA0
  have e1w : ((w.alloc (.cells #[.int .i64 a0, .int .i64 a1, .int .i64 a2, .int .i64 a3, .slice (some ⟨bA, oA, none⟩) (m + 1) c1] 24)).alloc (.cells #[.int .i64 0, .int .i64 0, .int .i64 0, .int .i64 0, .slice none 0 0] 24)).cell? ⟨bA, oA + m * 5 + 1, none⟩ = _ := (HLO.out.cell (p := ⟨bA, oA + m * 5 + 1, none⟩) hbA).trans hcA1
  have e2w : ((w.alloc (.cells #[.int .i64 a0, .int .i64 a1, .int .i64 a2, .int .i64 a3, .slice (some ⟨bA, oA, none⟩) (m + 1) c1] 24)).alloc (.cells #[.int .i64 0, .int .i64 0, .int .i64 0, .int .i64 0, .slice none 0 0] 24)).cell? ⟨bA, oA + m * 5 + 2, none⟩ = _ := (HLO.out.cell (p := ⟨bA, oA + m * 5 + 2, none⟩) hbA).trans hcA2
  have e3w : ((w.alloc (.cells #[.int .i64 a0, .int .i64 a1, .int .i64 a2, .int .i64 a3, .slice (some ⟨bA, oA, none⟩) (m + 1) c1] 24)).alloc (.cells #[.int .i64 0, .int .i64 0, .int .i64 0, .int .i64 0, .slice none 0 0] 24)).cell? ⟨bA, oA + m * 5 + 3, none⟩ = _ := (HLO.out.cell (p := ⟨bA, oA + m * 5 + 3, none⟩) hbA).trans hcA3
  have e4w : ((w.alloc (.cells #[.int .i64 a0, .int .i64 a1, .int .i64 a2, .int .i64 a3, .slice (some ⟨bA, oA, none⟩) (m + 1) c1] 24)).alloc (.cells #[.int .i64 0, .int .i64 0, .int .i64 0, .int .i64 0, .slice none 0 0] 24)).cell? ⟨bA, oA + m * 5 + 4, none⟩ = _ := (HLO.out.cell (p := ⟨bA, oA + m * 5 + 4, none⟩) hbA).trans hcA4
  clear hn1
  go_enter Tryz.func36, Tryz.ntmps36
  go_upto_region 1 with fail
  obtain ⟨v0, hv0⟩ : ∃ v, ((w.alloc (.cells #[.int .i64 a0, .int .i64 a1, .int .i64 a2, .int .i64 a3, .slice (some ⟨bA, oA, none⟩) (m + 1) c1] 24)).alloc (.cells #[.int .i64 0, .int .i64 0, .int .i64 0, .int .i64 0, .slice none 0 0] 24)) = v := ⟨_, rfl⟩
  rw [hv0] at HB0 HB1 HLO c0w c1w c2w c3w e0w e1w e2w e3w e4w ⊢
  clear hv0
  have p0 : v0.cell? ⟨w.heap.size, 0, none⟩ = some (.int .i64 a0) := HB0.out.cell 0
  have g0 : v0.cell? ⟨w.heap.size + 1, 0, none⟩ = some (.int .i64 0) := HB1.out.cell 0
  have gf0 := HB1.out.frozen 0
  have p1 : v0.cell? ⟨w.heap.size, 1, none⟩ = some (.int .i64 a1) := HB0.out.cell 1
  have g1 : v0.cell? ⟨w.heap.size + 1, 1, none⟩ = some (.int .i64 0) := HB1.out.cell 1
  have gf1 := HB1.out.frozen 1
  have p2 : v0.cell? ⟨w.heap.size, 2, none⟩ = some (.int .i64 a2) := HB0.out.cell 2
  have g2 : v0.cell? ⟨w.heap.size + 1, 2, none⟩ = some (.int .i64 0) := HB1.out.cell 2
  have gf2 := HB1.out.frozen 2
  have p3 : v0.cell? ⟨w.heap.size, 3, none⟩ = some (.int .i64 a3) := HB0.out.cell 3
  have g3 : v0.cell? ⟨w.heap.size + 1, 3, none⟩ = some (.int .i64 0) := HB1.out.cell 3
  have gf3 := HB1.out.frozen 3
  have p4 : v0.cell? ⟨w.heap.size, 4, none⟩ = some (.slice (some ⟨bA, oA, none⟩) (m + 1) c1) := HB0.out.cell 4
  have g4 : v0.cell? ⟨w.heap.size + 1, 4, none⟩ = some (.slice none 0 0) := HB1.out.cell 4
  have gf4 := HB1.out.frozen 4
  try simp only [List.cons_append, List.nil_append]
  clear p0 p1 p2 p3 g0 g1 g2 g3 g4 gf0 gf1 gf2 gf3 gf4
  have HV0 := Lib.hid (show Bk (v0.alloc (.cells #[.string tn, .int .i64 ta, .int .i64 tb, .slice TA nk tc, .slice TK kk tk] 33)) w.heap.size 24 #[.int .i64 a0, .int .i64 a1, .int .i64 a2, .int .i64 a3, .slice (some ⟨bA, oA, none⟩) (m + 1) c1] from HB0.out.alloc _)
  have HV1 := Lib.hid (show Bk (v0.alloc (.cells #[.string tn, .int .i64 ta, .int .i64 tb, .slice TA nk tc, .slice TK kk tk] 33)) (w.heap.size + 1) 24 #[.int .i64 0, .int .i64 0, .int .i64 0, .int .i64 0, .slice none 0 0] from HB1.out.alloc _)
  have HVT := Lib.hid (show Bk (v0.alloc (.cells #[.string tn, .int .i64 ta, .int .i64 tb, .slice TA nk tc, .slice TK kk tk] 33)) v0.heap.size 33 #[.string tn, .int .i64 ta, .int .i64 tb, .slice TA nk tc, .slice TK kk tk] from Bk.new v0 _ _)
  have HVL := Lib.hid (show Below w.heap.size w (v0.alloc (.cells #[.string tn, .int .i64 ta, .int .i64 tb, .slice TA nk tc, .slice TK kk tk] 33)) from HLO.out.alloc HLO.out.size _)
  have HSZ1 := Lib.hid (show w.heap.size + 2 ≤ v0.heap.size by have := HB1.out.lt; omega)
  have HWC := Lib.hid (And.intro hc0 (And.intro hc1 (And.intro hc2 hc3)))
  go_upto_region 18 with fail
  try simp only [List.cons_append, List.nil_append]
  obtain ⟨v1, hv1⟩ : ∃ v, v0.alloc (.cells #[.string tn, .int .i64 ta, .int .i64 tb, .slice TA nk tc, .slice TK kk tk] 33) = v := ⟨_, rfl⟩
  obtain ⟨tb0, htb0⟩ : ∃ g, v0.heap.size = g := ⟨_, rfl⟩
  rw [hv1] at HV0 HV1 HVT HVL ⊢
  rw [htb0] at HVT HSZ1 ⊢
  clear hv1 htb0 HB0 HB1 HLO c0w c1w c2w c3w e0w e1w e2w e3w e4w p4 hcA0 hcA1 hcA2 hcA3 hcA4
  have tk4 : v1.cell? ⟨tb0, 4, none⟩ = some (.slice TK kk tk) := HVT.out.cell 4
  have cw0 : v1.cell? ⟨b, o, none⟩ = some (.string B) := (HVL.out.cell (p := ⟨b, o, none⟩) hlt).trans hc0
  have cw1 : v1.cell? ⟨b, o + 1, none⟩ = some (.string Bn) := (HVL.out.cell (p := ⟨b, o + 1, none⟩) hlt).trans hc1
  have cw2 : v1.cell? ⟨b, o + 2, none⟩ = some (.string Bs) := (HVL.out.cell (p := ⟨b, o + 2, none⟩) hlt).trans hc2
  have cw3 : v1.cell? ⟨b, o + 3, none⟩ = some (.string Bu) := (HVL.out.cell (p := ⟨b, o + 3, none⟩) hlt).trans hc3
  have HTAK := Lib.hid (show (T ++ [(⟨⟨tn, ta, tb, tnl, tkl⟩, TA, tc, TK, tk⟩ : Tv)]).take m = T by rw [← HM.out]; simp)
  have HOL := Lib.hid (show tkl.length = kk from HKK.out)
  have HNIL := Lib.hid (show TK = none → kk = 0 ∧ tk = 0 by have := HTY.out.fk.nil_; dsimp only at this; rwa [HKK.out] at this)
  have HLS := Lib.hid (last_of a0 a1 a2 a3 T (⟨⟨tn, ta, tb, tnl, tkl⟩, TA, tc, TK, tk⟩ : Tv) (some ⟨bA, oA, none⟩) c1)
  have HNS := Lib.hid (show Bn.size ≤ 140737488355328 by rw [← HBn.out, bs_size]; have := HZ1.out; omega)
  obtain ⟨l, okx, HUX3, hxn, hxy, hxl⟩ : ∃ (l : List UInt8) (okx : Bool), Hid (∀ u, Calls Tryz.prog 78 #[.string Bs] u fun e u' => ∃ A c, e = .returned (.tuple #[.slice A l.length c, .bool okx]) ∧ Rb u' u'.heap.size A l ∧ Below u.heap.size u u') ∧ (okx = false → unhexB sx = none) ∧ (okx = true → unhexB sx = some l) ∧ l.length ≤ 140737488355328 := by
    have hux := fun u => runhex_ok Bs u (by rw [← HBs.out, bs_size]; exact HZ2.out)
    have hsx : Bs.data.toList = sx := by rw [← HBs.out]; simp [bs]
    cases hX : unhexB sx with
    | none =>
      refine ⟨[], false, Lib.hid fun u => (hux u).mono fun e u' hh => ?_, fun _ => rfl, fun e => (by cases e), by decide⟩
      rcases hh with ⟨l', A, c, h1, h2, h3, h4⟩ | ⟨h1, h2, h3⟩
      · rw [hsx, hX] at h1
        cases h1
      · exact ⟨none, 0, h2, .inl rfl, h3⟩
    | some l =>
      refine ⟨l, true, Lib.hid fun u => (hux u).mono fun e u' hh => ?_, fun e => (by cases e), fun _ => rfl, by have h1 := unhexB_le hX; have := HZ2.out; omega⟩
      rcases hh with ⟨l', A, c, h1, h2, h3, h4⟩ | ⟨h1, h2, h3⟩
      · rw [hsx, hX] at h1
        obtain rfl := Option.some.inj h1
        exact ⟨A, c, h2, h3.rb, h4⟩
      · rw [hsx, hX] at h1
        cases h1
  obtain ⟨v, oky, HPX, hyn, hyy⟩ : ∃ (v : Nat) (oky : Bool), Hid (∀ u, Calls Tryz.prog 79 #[.string Bu] u fun e u' => e = .returned (.tuple #[.int .i64 (v : Int), .bool oky]) ∧ u = u') ∧ (oky = false → decO ux = none) ∧ (oky = true → decO ux = some v) := by
    have hpx := fun u => rparse_ok Bu u (by rw [← HBu.out, bs_size]; have := HZ3.out; omega)
    cases hY : parseS Bu with
    | none =>
      simp only [hY, parE] at hpx
      exact ⟨0, false, Lib.hid hpx, fun _ => (by unfold decO; rw [HBu.out, hY]; rfl), fun e => (by cases e)⟩
    | some q =>
      obtain ⟨q, r⟩ := q
      simp only [hY, parE] at hpx
      exact ⟨q, true, Lib.hid hpx, fun e => (by cases e), fun _ => by unfold decO; rw [HBu.out, hY]; rfl⟩
  have HXL := Lib.hid hxl
  obtain ⟨ob, hob⟩ : ∃ b, (okx && oky) = b := ⟨_, rfl⟩
  have HOB := Lib.hid hob
  have HNO := Lib.hid (show ob = false → withO (Cv.cg ⟨a0, a1, a2, a3, T ++ [(⟨⟨tn, ta, tb, tnl, tkl⟩, TA, tc, TK, tk⟩ : Tv)], some ⟨bA, oA, none⟩, c1⟩) false [wToken, nm, sx, ux] = none from fun e => by
    rw [e] at hob
    rw [HW.out, readW_tok]
    unfold readToken
    cases okx with
    | false => simp only [HLS.out, hxn rfl]
    | true =>
      have e2 : oky = false := by simpa using hob
      simp only [HLS.out, hxy rfl, hyn e2])
  have HYES := Lib.hid (show ob = true → withO (Cv.cg ⟨a0, a1, a2, a3, T ++ [(⟨⟨tn, ta, tb, tnl, tkl⟩, TA, tc, TK, tk⟩ : Tv)], some ⟨bA, oA, none⟩, c1⟩) false [wToken, nm, sx, ux] = some (Cv.cg ⟨a0, a1, a2, a3, T ++ [(⟨⟨tn, ta, tb, tnl, tkl ++ [⟨Bn, bs l, (v : Int)⟩]⟩, TA, tc, TK, tk⟩ : Tv)], none, 0⟩) from fun e => by
    have e1 : okx = true ∧ oky = true := by rw [e] at hob; simpa using hob
    rw [HW.out, readW_tok]
    unfold readToken
    simp only [HLS.out, hxy e1.1, hyy e1.2, HBn.out]
    exact congrArg some (set_of a0 a1 a2 a3 T (⟨⟨tn, ta, tb, tnl, tkl⟩, TA, tc, TK, tk⟩ : Tv) (⟨⟨tn, ta, tb, tnl, tkl ++ [⟨Bn, bs l, (v : Int)⟩]⟩, TA, tc, TK, tk⟩ : Tv) _ none c1 0))
  clear hob
  clear hxn hxy hxl hyn hyy
  go_upto_region 25 with (first | (go_at_call 78; refine (HUX3.out _).mono ?_; rintro e u2 ⟨Ab, cb, rfl, hrb, hb2⟩; have HRB := Lib.hid hrb; clear hrb; have HB2 := Lib.hid hb2; have HL2 := Lib.hid (HVL.out.trans (hb2.mono HVL.out.size)); clear hb2 cw0 cw1 cw2 cw3 tk4; have cw1 : u2.cell? ⟨b, o + 1, none⟩ = some (.string Bn) := (HL2.out.cell (p := ⟨b, o + 1, none⟩) hlt).trans HWC.out.2.1; have cw3 : u2.cell? ⟨b, o + 3, none⟩ = some (.string Bu) := (HL2.out.cell (p := ⟨b, o + 3, none⟩) hlt).trans HWC.out.2.2.2) | (go_at_call 79; refine (HPX.out _).mono ?_; rintro e u3 ⟨rfl, rfl⟩))
  obtain ⟨v2, hv2⟩ : ∃ v, u2 = v := ⟨_, rfl⟩
  rw [hv2] at HRB HB2 HL2 ⊢
  clear hv2 cw1 cw3
  have HW0 := Lib.hid (HV0.out.below HB2.out HV0.out.lt)
  have HW1 := Lib.hid (HV1.out.below HB2.out HV1.out.lt)
  have HWT := Lib.hid (HVT.out.below HB2.out HVT.out.lt)
  have HWL := Lib.hid HL2.out
  clear HV0 HV1 HVT HVL HB2 HL2
  have HTB := Lib.hid (show w.heap.size + 2 ≤ tb0 from HSZ1.out)
  have HOR := Lib.hid (HTY.out.k.on HWL.out)
  have HBL := Lib.hid (show b < v2.heap.size from Nat.lt_of_lt_of_le hlt HWL.out.size)
  have HSZK := Lib.hid (show ∀ k ∈ tkl ++ [(⟨Bn, bs l, (v : Int)⟩ : Tk)], k.name.size ≤ 140737488355328 ∧ k.sec.size ≤ 140737488355328 from fun k hk => by
    rcases List.mem_append.1 hk with hk | hk
    · exact HTY.out.szk k hk
    · obtain rfl := List.mem_singleton.1 hk
      exact ⟨HNS.out, by rw [bs_size]; exact HXL.out⟩)
  try simp only [List.cons_append, List.nil_append]
  refine wp_region_L (S := fun u => Below v2.heap.size v2 u) 14 (by kernel_rfl) ((Below.refl _ _).drew) (fun hHeld => ?_)
  refine takeL (some 164) [2, 3, 12, 14] (i := 1) (v := ?_) rfl rfl (by kernel_rfl) (by kernel_rfl) (by kernel_rfl) (by kernel_rfl) (fun _ _ _ h => h) (Or.inl ⟨by kernel_rfl, ?_⟩) hHeld ?_
  rotate_left
  · intro wz hSw; have q4 : wz.cell? ⟨tb0, 4, none⟩ = some (.slice TK kk tk) := (HWT.out.below hSw HWT.out.lt).cell 4; have w1 : wz.cell? ⟨b, o + 1, none⟩ = some (.string Bn) := (hSw.cell (p := ⟨b, o + 1, none⟩) HBL.out).trans ((HWL.out.cell (p := ⟨b, o + 1, none⟩) hlt).trans HWC.out.2.1); go_simp; try (with_reducible rfl)
  try simp only [lay]
  refine takeL (some 165) [3, 12, 14] (i := 2) (v := ?_) rfl rfl (by kernel_rfl) (by kernel_rfl) (by kernel_rfl) (by kernel_rfl) (fun _ _ _ h => h) (Or.inl ⟨by kernel_rfl, ?_⟩) hHeld ?_
  rotate_left
  · intro wz hSw; have q4 : wz.cell? ⟨tb0, 4, none⟩ = some (.slice TK kk tk) := (HWT.out.below hSw HWT.out.lt).cell 4; have w1 : wz.cell? ⟨b, o + 1, none⟩ = some (.string Bn) := (hSw.cell (p := ⟨b, o + 1, none⟩) HBL.out).trans ((HWL.out.cell (p := ⟨b, o + 1, none⟩) hlt).trans HWC.out.2.1); go_simp; try (with_reducible rfl)
  try simp only [lay]
  refine takeL (some 167) [5, 6, 10, 11, 12, 14] (i := 4) (v := ?_) rfl rfl (by kernel_rfl) (by kernel_rfl) (by kernel_rfl) (by kernel_rfl) (fun _ _ _ h => h) (Or.inl ⟨by kernel_rfl, ?_⟩) hHeld ?_
  rotate_left
  · intro wz hSw; have q4 : wz.cell? ⟨tb0, 4, none⟩ = some (.slice TK kk tk) := (HWT.out.below hSw HWT.out.lt).cell 4; have w1 : wz.cell? ⟨b, o + 1, none⟩ = some (.string Bn) := (hSw.cell (p := ⟨b, o + 1, none⟩) HBL.out).trans ((HWL.out.cell (p := ⟨b, o + 1, none⟩) hlt).trans HWC.out.2.1); go_simp; try (with_reducible rfl)
  try simp only [lay]
  refine takeL (some 168) [6, 10, 11, 12, 14] (i := 5) (v := ?_) rfl rfl (by kernel_rfl) (by kernel_rfl) (by kernel_rfl) (by kernel_rfl) (fun _ _ _ h => h) (Or.inl ⟨by kernel_rfl, ?_⟩) hHeld ?_
  rotate_left
  · intro wz hSw; have q4 : wz.cell? ⟨tb0, 4, none⟩ = some (.slice TK kk tk) := (HWT.out.below hSw HWT.out.lt).cell 4; have w1 : wz.cell? ⟨b, o + 1, none⟩ = some (.string Bn) := (hSw.cell (p := ⟨b, o + 1, none⟩) HBL.out).trans ((HWL.out.cell (p := ⟨b, o + 1, none⟩) hlt).trans HWC.out.2.1); go_simp; try (with_reducible rfl)
  try simp only [lay]
  refine takeL (some 169) [10, 11, 12, 14] (i := 6) (v := ?_) rfl rfl (by kernel_rfl) (by kernel_rfl) (by kernel_rfl) (by kernel_rfl) (fun _ _ _ h => h) (Or.inl ⟨by kernel_rfl, ?_⟩) hHeld ?_
  rotate_left
  · intro wz hSw; have q4 : wz.cell? ⟨tb0, 4, none⟩ = some (.slice TK kk tk) := (HWT.out.below hSw HWT.out.lt).cell 4; have w1 : wz.cell? ⟨b, o + 1, none⟩ = some (.string Bn) := (hSw.cell (p := ⟨b, o + 1, none⟩) HBL.out).trans ((HWL.out.cell (p := ⟨b, o + 1, none⟩) hlt).trans HWC.out.2.1); go_simp; try (with_reducible rfl)
  try simp only [lay]
  refine takeL (some 170) [8, 10, 11, 12, 14] (i := 7) (v := ?_) rfl rfl (by kernel_rfl) (by kernel_rfl) (by kernel_rfl) (by kernel_rfl) (fun _ _ _ h => h) (Or.inl ⟨by kernel_rfl, ?_⟩) hHeld ?_
  rotate_left
  · intro wz hSw; have q4 : wz.cell? ⟨tb0, 4, none⟩ = some (.slice TK kk tk) := (HWT.out.below hSw HWT.out.lt).cell 4; have w1 : wz.cell? ⟨b, o + 1, none⟩ = some (.string Bn) := (hSw.cell (p := ⟨b, o + 1, none⟩) HBL.out).trans ((HWL.out.cell (p := ⟨b, o + 1, none⟩) hlt).trans HWC.out.2.1); go_simp; try (with_reducible rfl)
  try simp only [lay]
  refine takeL (some 171) [10, 11, 12, 14] (i := 8) rfl rfl (by kernel_rfl) (by kernel_rfl) (by kernel_rfl) (by kernel_rfl) (fun _ _ _ h => h) (yieldsIf_conv (by kernel_rfl) 98 5 9 (.tmp 170) rfl Ab l.length cb l rfl rfl (fun z hz => HRB.out.below hz (Nat.le_refl _)) Tryz.underlying98 Tryz.underlying5 Tryz.underlying9) hHeld ?_
  try simp only [lay]
  refine takeL (some 172) [10, 11, 12, 14] (i := 9) (v := ?_) rfl rfl (by kernel_rfl) (by kernel_rfl) (by kernel_rfl) (by kernel_rfl) (fun _ _ _ h => h) (Or.inl ⟨by kernel_rfl, ?_⟩) hHeld ?_
  rotate_left
  · intro wz hSw; have q4 : wz.cell? ⟨tb0, 4, none⟩ = some (.slice TK kk tk) := (HWT.out.below hSw HWT.out.lt).cell 4; have w1 : wz.cell? ⟨b, o + 1, none⟩ = some (.string Bn) := (hSw.cell (p := ⟨b, o + 1, none⟩) HBL.out).trans ((HWL.out.cell (p := ⟨b, o + 1, none⟩) hlt).trans HWC.out.2.1); go_simp; try (with_reducible rfl)
  try simp only [lay]
  refine takeL (some 173) [11, 12, 14] (i := 10) (v := ?_) rfl rfl (by kernel_rfl) (by kernel_rfl) (by kernel_rfl) (by kernel_rfl) (fun _ _ _ h => h) (Or.inl ⟨by kernel_rfl, ?_⟩) hHeld ?_
  rotate_left
  · intro wz hSw; have q4 : wz.cell? ⟨tb0, 4, none⟩ = some (.slice TK kk tk) := (HWT.out.below hSw HWT.out.lt).cell 4; have w1 : wz.cell? ⟨b, o + 1, none⟩ = some (.string Bn) := (hSw.cell (p := ⟨b, o + 1, none⟩) HBL.out).trans ((HWL.out.cell (p := ⟨b, o + 1, none⟩) hlt).trans HWC.out.2.1); go_simp; try (with_reducible rfl)
  try simp only [lay]
  refine wpAnyL_ready (rs := [0, 11]) (by kernel_rfl) (by simp) (AllReadyL.cons rfl (fun K hK => ?_) (AllReadyL.cons rfl (fun K hK => ?_) AllReadyL.nil))
  · rw [if_pos (by kernel_rfl)]
    go_simp
    refine hK.out _ _ ((Below.refl _ _).drew.alloc (Nat.le_refl _) _) (fun hHeld => ?_)
    try simp only [lay]
    refine gen_anyL (fun u => Below v2.heap.size v2 u ∧ Ow 37 3 kcs u v2.heap.size (some ⟨v2.heap.size, 0, none⟩) 0 ([] : List Tk)) ⟨hHeld, Ow.empty v2.drew v2.heap.size (Nat.le_refl _)⟩ (fun x1 hx1 => ?_)
    clear hHeld
    refine wpAnyL_ready (rs := [3, 11]) (by kernel_rfl) (by simp) (AllReadyL.cons rfl (fun K hK => ?_) (AllReadyL.cons rfl (fun K hK => ?_) AllReadyL.nil))
    · rw [if_pos (by kernel_rfl)]
      refine op_rows roK (.tmp 163) (.tmp 165) rfl 0 rfl rfl hx1.2 tkl _ kk tk rfl HOL.out HNIL.out (HOR.out.on hx1.1) (by have := HFW.out; omega) hx1.1.size kk (Nat.zero_add _) ?_
      intro A1 c3 x2 hox2 hgx2 hbx2
      rw [List.nil_append] at hox2
      refine hK.out _ _ (hx1.1.trans hbx2) (fun hHeld => ?_)
      try simp only [lay]
      refine wpAnyL_ready (rs := [11]) (by kernel_rfl) (by simp) (AllReadyL.cons rfl (fun K hK => ?_) AllReadyL.nil)
      rw [if_pos (by kernel_rfl)]
      go_simp
      refine hK.out _ _ ((hx1.1.trans hbx2).alloc ((hx1.1.trans hbx2).size) _) (fun hHeld => ?_)
      try simp only [lay]
      refine gen_anyL (fun u => Below v2.heap.size v2 u ∧ Bk u x2.heap.size 37 (kcs (⟨Bn, bs l, (v : Int)⟩ : Tk)) ∧ Ow 37 3 kcs u v2.heap.size A1 c3 tkl) ⟨hHeld, Bk.new x2 _ _, hox2.on ((Below.refl _ _).alloc (Nat.le_refl _) _)⟩ (fun x3 hx3 => ?_)
      clear hHeld
      refine wpAnyL_ready (rs := [12]) (by kernel_rfl) (by simp) (AllReadyL.cons rfl (fun K hK => ?_) AllReadyL.nil)
      rw [if_pos (by kernel_rfl)]
      refine op_rows roK (.tmp 166) (.tmp 174) rfl kk rfl HOL.out hx3.2.2 [(⟨Bn, bs l, (v : Int)⟩ : Tk)] (some ⟨x2.heap.size, 0, none⟩) 1 1 rfl rfl (fun h => by cases h) (Rw.bk hx3.2.1) (by have := HFW.out; omega) hx3.1.size (kk + 1) rfl ?_
      intro A2 c2 x4 ho4 hg4 hb4
      have hbl4 := hx3.1.trans hb4
      have hgd4 := HWT.out.below hbl4 HWT.out.lt
      have d4 : x4.cell? ⟨tb0, 4, none⟩ = some (.slice TK kk tk) := hgd4.cell 4
      have f4 := hgd4.frozen 4
      refine hK.out _ _ hbl4 (fun hHeld => ?_)
      try simp only [lay]
      refine takeL (some 176) [14] (i := 13) (v := ?_) rfl rfl (by kernel_rfl) (by kernel_rfl) (by kernel_rfl) (by kernel_rfl) (fun _ _ _ h => h) (Or.inl ⟨by kernel_rfl, ?_⟩) hHeld ?_
      rotate_left
      · intro wz hSw; go_simp; try (with_reducible rfl)
      try simp only [lay]
      refine wpAnyL_ready (rs := [14]) (by kernel_rfl) (by simp) (AllReadyL.last rfl (fun K hK => ?_))
      rw [if_pos (by kernel_rfl)]
      go_simp
      refine hK.out _ _ ?_
      try simp only [lay]
      refine wpAnyL_done (by kernel_rfl) ?_ _
      refine gen_qL (fun u => Bk u tb0 33 #[.string tn, .int .i64 ta, .int .i64 tb, .slice TA nk tc, .slice A2 (kk + 1) c2] ∧ Bk u w.heap.size 24 #[.int .i64 a0, .int .i64 a1, .int .i64 a2, .int .i64 a3, .slice (some ⟨bA, oA, none⟩) (m + 1) c1] ∧ Bk u (w.heap.size + 1) 24 #[.int .i64 0, .int .i64 0, .int .i64 0, .int .i64 0, .slice none 0 0] ∧ Ow 37 3 kcs u v2.heap.size A2 c2 (tkl ++ [(⟨Bn, bs l, (v : Int)⟩ : Tk)]) ∧ Below w.heap.size w u) ⟨?_, ?_, ?_, ?_, ?_⟩ (fun y5 hy5 => ?_)
      · have := hgd4.set 4 (.slice A2 (kk + 1) c2)
        simpa only [List.setIfInBounds_toArray, List.set_cons_zero, List.set_cons_succ] using this
      · exact (HW0.out.below hbl4 HW0.out.lt).far (by show w.heap.size ≠ tb0; have := HTB.out; omega) _
      · exact (HW1.out.below hbl4 HW1.out.lt).far (by show w.heap.size + 1 ≠ tb0; have := HTB.out; omega) _
      · exact ho4.set (p := ⟨tb0, 4, none⟩) HWT.out.lt _
      · exact (HWL.out.trans (hbl4.mono HWL.out.size)).setCell (p := ⟨tb0, 4, none⟩) (by show w.heap.size ≤ tb0; have := HTB.out; omega) _
      clear hHeld hbl4 hgd4 ho4 hg4 hb4 d4 f4
      obtain ⟨yt, yd, yz, yo, yl⟩ := hy5
      have HYT := Lib.hid yt
      have HYD := Lib.hid yd
      have HYZ := Lib.hid yz
      have HYO := Lib.hid yo
      have HYL := Lib.hid yl
      clear yt yd yz yo yl
      have p0 : y5.cell? ⟨w.heap.size, 0, none⟩ = some (.int .i64 a0) := HYD.out.cell 0
      have p1 : y5.cell? ⟨w.heap.size, 1, none⟩ = some (.int .i64 a1) := HYD.out.cell 1
      have p2 : y5.cell? ⟨w.heap.size, 2, none⟩ = some (.int .i64 a2) := HYD.out.cell 2
      have p3 : y5.cell? ⟨w.heap.size, 3, none⟩ = some (.int .i64 a3) := HYD.out.cell 3
      have p4 : y5.cell? ⟨w.heap.size, 4, none⟩ = some (.slice (some ⟨bA, oA, none⟩) (m + 1) c1) := HYD.out.cell 4
      have t0 : y5.cell? ⟨tb0, 0, none⟩ = some (.string tn) := HYT.out.cell 0
      have t1 : y5.cell? ⟨tb0, 1, none⟩ = some (.int .i64 ta) := HYT.out.cell 1
      have t2 : y5.cell? ⟨tb0, 2, none⟩ = some (.int .i64 tb) := HYT.out.cell 2
      have t3 : y5.cell? ⟨tb0, 3, none⟩ = some (.slice TA nk tc) := HYT.out.cell 3
      have t4 : y5.cell? ⟨tb0, 4, none⟩ = some (.slice A2 (kk + 1) c2) := HYT.out.cell 4
      obtain ⟨zt, hzt⟩ : ∃ z : Tv, (⟨⟨tn, ta, tb, tnl, tkl ++ [(⟨Bn, bs l, (v : Int)⟩ : Tk)]⟩, TA, tc, A2, c2⟩ : Tv) = z := ⟨_, rfl⟩
      have hzc : tcs zt = #[.string tn, .int .i64 ta, .int .i64 tb, .slice TA nk tc, .slice A2 (kk + 1) c2] := by rw [← hzt]; simp only [tcs, List.length_append, List.length_singleton, HNK.out, HKK.out]
      have HLA := Lib.hid (rlast_ok a0 a1 a2 a3 bA oA (T ++ [(⟨⟨tn, ta, tb, tnl, tkl⟩, TA, tc, TK, tk⟩ : Tv)]) m c1 zt y5 (HRC.out.r.r.on HYL.out) HN1.out HN9.out HCAP.out.1 HCAP.out.2)
      rw [hzc, HTAK.out] at HLA
      have HZT := Lib.hid hzt
      clear hzt hzc
      cases okx
      all_goals
        go_wp2_with (go_at_call 77; (with_reducible refine HLA.out.mono ?_); rintro e u6 ⟨A3, c4, rfl, ho6, hb6⟩; have HO6 := Lib.hid ho6; have HL6 := Lib.hid (HYL.out.trans (hb6.mono HYL.out.size)); have HN6 := Lib.hid (HYO.out.on hb6); have kz := HYZ.out.below hb6 HYZ.out.lt; clear hb6 ho6; have g0 : u6.cell? ⟨w.heap.size + 1, 0, none⟩ = some (.int .i64 0) := kz.cell 0; have gf0 := kz.frozen 0; have g1 : u6.cell? ⟨w.heap.size + 1, 1, none⟩ = some (.int .i64 0) := kz.cell 1; have gf1 := kz.frozen 1; have g2 : u6.cell? ⟨w.heap.size + 1, 2, none⟩ = some (.int .i64 0) := kz.cell 2; have gf2 := kz.frozen 2; have g3 : u6.cell? ⟨w.heap.size + 1, 3, none⟩ = some (.int .i64 0) := kz.cell 3; have gf3 := kz.frozen 3; have g4 : u6.cell? ⟨w.heap.size + 1, 4, none⟩ = some (.slice none 0 0) := kz.cell 4; have gf4 := kz.frozen 4; have KZ := Lib.hid kz; clear kz)
        have kU := (((((KZ.out.set 0 (.int .i64 a0)).set 1 (.int .i64 a1)).set 2 (.int .i64 a2)).set 3 (.int .i64 a3)).set 4 (.slice A3 (m + 1) c4))
        simp only [List.setIfInBounds_toArray, List.set_cons_zero, List.set_cons_succ] at kU
        have hlow2 := (((((HL6.out.setCell (p := ⟨w.heap.size + 1, 0, none⟩) (by show w.heap.size ≤ w.heap.size + 1; omega) (.int .i64 a0)).setCell (p := ⟨w.heap.size + 1, 1, none⟩) (by show w.heap.size ≤ w.heap.size + 1; omega) (.int .i64 a1)).setCell (p := ⟨w.heap.size + 1, 2, none⟩) (by show w.heap.size ≤ w.heap.size + 1; omega) (.int .i64 a2)).setCell (p := ⟨w.heap.size + 1, 3, none⟩) (by show w.heap.size ≤ w.heap.size + 1; omega) (.int .i64 a3)).setCell (p := ⟨w.heap.size + 1, 4, none⟩) (by show w.heap.size ≤ w.heap.size + 1; omega) (.slice A3 (m + 1) c4))
        have hown2 := (((((HO6.out.set (p := ⟨w.heap.size + 1, 0, none⟩) HYZ.out.lt (.int .i64 a0)).set (p := ⟨w.heap.size + 1, 1, none⟩) HYZ.out.lt (.int .i64 a1)).set (p := ⟨w.heap.size + 1, 2, none⟩) HYZ.out.lt (.int .i64 a2)).set (p := ⟨w.heap.size + 1, 3, none⟩) HYZ.out.lt (.int .i64 a3)).set (p := ⟨w.heap.size + 1, 4, none⟩) HYZ.out.lt (.slice A3 (m + 1) c4))
        have hnew2 := (((((HN6.out.set (p := ⟨w.heap.size + 1, 0, none⟩) HW1.out.lt (.int .i64 a0)).set (p := ⟨w.heap.size + 1, 1, none⟩) HW1.out.lt (.int .i64 a1)).set (p := ⟨w.heap.size + 1, 2, none⟩) HW1.out.lt (.int .i64 a2)).set (p := ⟨w.heap.size + 1, 3, none⟩) HW1.out.lt (.int .i64 a3)).set (p := ⟨w.heap.size + 1, 4, none⟩) HW1.out.lt (.slice A3 (m + 1) c4))
        have hob := HOB.out
        refine bodyPost_ret (v := .tuple #[.agg #[.int .i64 a0, .int .i64 a1, .int .i64 a2, .int .i64 a3, .slice A3 (m + 1) c4], .bool ob]) ?_ rfl ⟨hlow2, ?_⟩
        · have k0 := kU.cell 0; have k1 := kU.cell 1; have k2 := kU.cell 2; have k3 := kU.cell 3; have k4 := kU.cell 4
          simp [results, Tryz.f36, go_sem, k0, k1, k2, k3, k4, ← hob]
        · clear hob
          cases ob with
          | false => exact .inl ⟨⟨a0, a1, a2, a3, T ++ [zt], A3, c4⟩, by simp only [ccs, List.length_append, List.length_singleton, HM.out], HNO.out rfl⟩
          | true => exact .inr ⟨⟨a0, a1, a2, a3, T ++ [zt], A3, c4⟩, by simp only [ccs, List.length_append, List.length_singleton, HM.out], rc_last HRC.out hlow2 hown2 (by rw [← HZT.out]; exact ⟨HTY.out.n.on hlow2, hnew2.rw_ (fun _ => rfl), HTY.out.fn, hnew2.fit, HTY.out.lt, HTY.out.sz, HSZK.out⟩), by rw [HYES.out rfl, ← HZT.out]; simp [Cv.cg]⟩
    · rw [if_pos (by kernel_rfl)]
      go_simp
      refine hK.out _ _ (hx1.1.alloc (hx1.1.size) _) (fun hHeld => ?_)
      try simp only [lay]
      refine gen_anyL (fun u => Below v2.heap.size v2 u ∧ Bk u x1.heap.size 37 (kcs (⟨Bn, bs l, (v : Int)⟩ : Tk)) ∧ Ow 37 3 kcs u v2.heap.size (some ⟨v2.heap.size, 0, none⟩) 0 ([] : List Tk)) ⟨hHeld, Bk.new x1 _ _, hx1.2.on ((Below.refl _ _).alloc (Nat.le_refl _) _)⟩ (fun x2 hx2 => ?_)
      clear hHeld
      have hlt1 : v2.heap.size < x1.heap.size := (hx1.2.block 0 _ rfl).2.1
      refine wpAnyL_ready (rs := [3]) (by kernel_rfl) (by simp) (AllReadyL.cons rfl (fun K hK => ?_) AllReadyL.nil)
      rw [if_pos (by kernel_rfl)]
      refine op_rows roK (.tmp 163) (.tmp 165) rfl 0 rfl rfl hx2.2.2 tkl _ kk tk rfl HOL.out HNIL.out (HOR.out.on hx2.1) (by have := HFW.out; omega) hx2.1.size kk (Nat.zero_add _) ?_
      intro A1 c3 x3 hox3 hgx3 hbx3
      rw [List.nil_append] at hox3
      refine hK.out _ _ (hx2.1.trans hbx3) (fun hHeld => ?_)
      try simp only [lay]
      refine wpAnyL_ready (rs := [12]) (by kernel_rfl) (by simp) (AllReadyL.cons rfl (fun K hK => ?_) AllReadyL.nil)
      rw [if_pos (by kernel_rfl)]
      refine op_rows roK (.tmp 166) (.tmp 174) rfl kk rfl HOL.out hox3 [(⟨Bn, bs l, (v : Int)⟩ : Tk)] (some ⟨x1.heap.size, 0, none⟩) 1 1 rfl rfl (fun h => by cases h) (Rw.bk ((hgx3.block x1.heap.size hx2.2.1.lt (fun e => by injection e with e; dsimp only at e; omega)).trans hx2.2.1)) (by have := HFW.out; omega) (hx2.1.trans hbx3).size (kk + 1) rfl ?_
      intro A2 c2 x4 ho4 hg4 hb4
      have hbl4 := (hx2.1.trans hbx3).trans hb4
      have hgd4 := HWT.out.below hbl4 HWT.out.lt
      have d4 : x4.cell? ⟨tb0, 4, none⟩ = some (.slice TK kk tk) := hgd4.cell 4
      have f4 := hgd4.frozen 4
      refine hK.out _ _ hbl4 (fun hHeld => ?_)
      try simp only [lay]
      refine takeL (some 176) [14] (i := 13) (v := ?_) rfl rfl (by kernel_rfl) (by kernel_rfl) (by kernel_rfl) (by kernel_rfl) (fun _ _ _ h => h) (Or.inl ⟨by kernel_rfl, ?_⟩) hHeld ?_
      rotate_left
      · intro wz hSw; go_simp; try (with_reducible rfl)
      try simp only [lay]
      refine wpAnyL_ready (rs := [14]) (by kernel_rfl) (by simp) (AllReadyL.last rfl (fun K hK => ?_))
      rw [if_pos (by kernel_rfl)]
      go_simp
      refine hK.out _ _ ?_
      try simp only [lay]
      refine wpAnyL_done (by kernel_rfl) ?_ _
      refine gen_qL (fun u => Bk u tb0 33 #[.string tn, .int .i64 ta, .int .i64 tb, .slice TA nk tc, .slice A2 (kk + 1) c2] ∧ Bk u w.heap.size 24 #[.int .i64 a0, .int .i64 a1, .int .i64 a2, .int .i64 a3, .slice (some ⟨bA, oA, none⟩) (m + 1) c1] ∧ Bk u (w.heap.size + 1) 24 #[.int .i64 0, .int .i64 0, .int .i64 0, .int .i64 0, .slice none 0 0] ∧ Ow 37 3 kcs u v2.heap.size A2 c2 (tkl ++ [(⟨Bn, bs l, (v : Int)⟩ : Tk)]) ∧ Below w.heap.size w u) ⟨?_, ?_, ?_, ?_, ?_⟩ (fun y5 hy5 => ?_)
      · have := hgd4.set 4 (.slice A2 (kk + 1) c2)
        simpa only [List.setIfInBounds_toArray, List.set_cons_zero, List.set_cons_succ] using this
      · exact (HW0.out.below hbl4 HW0.out.lt).far (by show w.heap.size ≠ tb0; have := HTB.out; omega) _
      · exact (HW1.out.below hbl4 HW1.out.lt).far (by show w.heap.size + 1 ≠ tb0; have := HTB.out; omega) _
      · exact ho4.set (p := ⟨tb0, 4, none⟩) HWT.out.lt _
      · exact (HWL.out.trans (hbl4.mono HWL.out.size)).setCell (p := ⟨tb0, 4, none⟩) (by show w.heap.size ≤ tb0; have := HTB.out; omega) _
      clear hHeld hbl4 hgd4 ho4 hg4 hb4 d4 f4
      obtain ⟨yt, yd, yz, yo, yl⟩ := hy5
      have HYT := Lib.hid yt
      have HYD := Lib.hid yd
      have HYZ := Lib.hid yz
      have HYO := Lib.hid yo
      have HYL := Lib.hid yl
      clear yt yd yz yo yl
      have p0 : y5.cell? ⟨w.heap.size, 0, none⟩ = some (.int .i64 a0) := HYD.out.cell 0
      have p1 : y5.cell? ⟨w.heap.size, 1, none⟩ = some (.int .i64 a1) := HYD.out.cell 1
      have p2 : y5.cell? ⟨w.heap.size, 2, none⟩ = some (.int .i64 a2) := HYD.out.cell 2
      have p3 : y5.cell? ⟨w.heap.size, 3, none⟩ = some (.int .i64 a3) := HYD.out.cell 3
      have p4 : y5.cell? ⟨w.heap.size, 4, none⟩ = some (.slice (some ⟨bA, oA, none⟩) (m + 1) c1) := HYD.out.cell 4
      have t0 : y5.cell? ⟨tb0, 0, none⟩ = some (.string tn) := HYT.out.cell 0
      have t1 : y5.cell? ⟨tb0, 1, none⟩ = some (.int .i64 ta) := HYT.out.cell 1
      have t2 : y5.cell? ⟨tb0, 2, none⟩ = some (.int .i64 tb) := HYT.out.cell 2
      have t3 : y5.cell? ⟨tb0, 3, none⟩ = some (.slice TA nk tc) := HYT.out.cell 3
      have t4 : y5.cell? ⟨tb0, 4, none⟩ = some (.slice A2 (kk + 1) c2) := HYT.out.cell 4
      obtain ⟨zt, hzt⟩ : ∃ z : Tv, (⟨⟨tn, ta, tb, tnl, tkl ++ [(⟨Bn, bs l, (v : Int)⟩ : Tk)]⟩, TA, tc, A2, c2⟩ : Tv) = z := ⟨_, rfl⟩
      have hzc : tcs zt = #[.string tn, .int .i64 ta, .int .i64 tb, .slice TA nk tc, .slice A2 (kk + 1) c2] := by rw [← hzt]; simp only [tcs, List.length_append, List.length_singleton, HNK.out, HKK.out]
      have HLA := Lib.hid (rlast_ok a0 a1 a2 a3 bA oA (T ++ [(⟨⟨tn, ta, tb, tnl, tkl⟩, TA, tc, TK, tk⟩ : Tv)]) m c1 zt y5 (HRC.out.r.r.on HYL.out) HN1.out HN9.out HCAP.out.1 HCAP.out.2)
      rw [hzc, HTAK.out] at HLA
      have HZT := Lib.hid hzt
      clear hzt hzc
      cases okx
      all_goals
        go_wp2_with (go_at_call 77; (with_reducible refine HLA.out.mono ?_); rintro e u6 ⟨A3, c4, rfl, ho6, hb6⟩; have HO6 := Lib.hid ho6; have HL6 := Lib.hid (HYL.out.trans (hb6.mono HYL.out.size)); have HN6 := Lib.hid (HYO.out.on hb6); have kz := HYZ.out.below hb6 HYZ.out.lt; clear hb6 ho6; have g0 : u6.cell? ⟨w.heap.size + 1, 0, none⟩ = some (.int .i64 0) := kz.cell 0; have gf0 := kz.frozen 0; have g1 : u6.cell? ⟨w.heap.size + 1, 1, none⟩ = some (.int .i64 0) := kz.cell 1; have gf1 := kz.frozen 1; have g2 : u6.cell? ⟨w.heap.size + 1, 2, none⟩ = some (.int .i64 0) := kz.cell 2; have gf2 := kz.frozen 2; have g3 : u6.cell? ⟨w.heap.size + 1, 3, none⟩ = some (.int .i64 0) := kz.cell 3; have gf3 := kz.frozen 3; have g4 : u6.cell? ⟨w.heap.size + 1, 4, none⟩ = some (.slice none 0 0) := kz.cell 4; have gf4 := kz.frozen 4; have KZ := Lib.hid kz; clear kz)
        have kU := (((((KZ.out.set 0 (.int .i64 a0)).set 1 (.int .i64 a1)).set 2 (.int .i64 a2)).set 3 (.int .i64 a3)).set 4 (.slice A3 (m + 1) c4))
        simp only [List.setIfInBounds_toArray, List.set_cons_zero, List.set_cons_succ] at kU
        have hlow2 := (((((HL6.out.setCell (p := ⟨w.heap.size + 1, 0, none⟩) (by show w.heap.size ≤ w.heap.size + 1; omega) (.int .i64 a0)).setCell (p := ⟨w.heap.size + 1, 1, none⟩) (by show w.heap.size ≤ w.heap.size + 1; omega) (.int .i64 a1)).setCell (p := ⟨w.heap.size + 1, 2, none⟩) (by show w.heap.size ≤ w.heap.size + 1; omega) (.int .i64 a2)).setCell (p := ⟨w.heap.size + 1, 3, none⟩) (by show w.heap.size ≤ w.heap.size + 1; omega) (.int .i64 a3)).setCell (p := ⟨w.heap.size + 1, 4, none⟩) (by show w.heap.size ≤ w.heap.size + 1; omega) (.slice A3 (m + 1) c4))
        have hown2 := (((((HO6.out.set (p := ⟨w.heap.size + 1, 0, none⟩) HYZ.out.lt (.int .i64 a0)).set (p := ⟨w.heap.size + 1, 1, none⟩) HYZ.out.lt (.int .i64 a1)).set (p := ⟨w.heap.size + 1, 2, none⟩) HYZ.out.lt (.int .i64 a2)).set (p := ⟨w.heap.size + 1, 3, none⟩) HYZ.out.lt (.int .i64 a3)).set (p := ⟨w.heap.size + 1, 4, none⟩) HYZ.out.lt (.slice A3 (m + 1) c4))
        have hnew2 := (((((HN6.out.set (p := ⟨w.heap.size + 1, 0, none⟩) HW1.out.lt (.int .i64 a0)).set (p := ⟨w.heap.size + 1, 1, none⟩) HW1.out.lt (.int .i64 a1)).set (p := ⟨w.heap.size + 1, 2, none⟩) HW1.out.lt (.int .i64 a2)).set (p := ⟨w.heap.size + 1, 3, none⟩) HW1.out.lt (.int .i64 a3)).set (p := ⟨w.heap.size + 1, 4, none⟩) HW1.out.lt (.slice A3 (m + 1) c4))
        have hob := HOB.out
        refine bodyPost_ret (v := .tuple #[.agg #[.int .i64 a0, .int .i64 a1, .int .i64 a2, .int .i64 a3, .slice A3 (m + 1) c4], .bool ob]) ?_ rfl ⟨hlow2, ?_⟩
        · have k0 := kU.cell 0; have k1 := kU.cell 1; have k2 := kU.cell 2; have k3 := kU.cell 3; have k4 := kU.cell 4
          simp [results, Tryz.f36, go_sem, k0, k1, k2, k3, k4, ← hob]
        · clear hob
          cases ob with
          | false => exact .inl ⟨⟨a0, a1, a2, a3, T ++ [zt], A3, c4⟩, by simp only [ccs, List.length_append, List.length_singleton, HM.out], HNO.out rfl⟩
          | true => exact .inr ⟨⟨a0, a1, a2, a3, T ++ [zt], A3, c4⟩, by simp only [ccs, List.length_append, List.length_singleton, HM.out], rc_last HRC.out hlow2 hown2 (by rw [← HZT.out]; exact ⟨HTY.out.n.on hlow2, hnew2.rw_ (fun _ => rfl), HTY.out.fn, hnew2.fit, HTY.out.lt, HTY.out.sz, HSZK.out⟩), by rw [HYES.out rfl, ← HZT.out]; simp [Cv.cg]⟩
  · rw [if_pos (by kernel_rfl)]
    go_simp
    refine hK.out _ _ ((Below.refl _ _).drew.alloc (Nat.le_refl _) _) (fun hHeld => ?_)
    try simp only [lay]
    refine gen_anyL (fun u => Below v2.heap.size v2 u ∧ Bk u v2.heap.size 37 (kcs (⟨Bn, bs l, (v : Int)⟩ : Tk))) ⟨hHeld, Bk.new v2.drew _ _⟩ (fun x1 hx1 => ?_)
    clear hHeld
    refine wpAnyL_ready (rs := [0]) (by kernel_rfl) (by simp) (AllReadyL.cons rfl (fun K hK => ?_) AllReadyL.nil)
    rw [if_pos (by kernel_rfl)]
    go_simp
    refine hK.out _ _ (hx1.1.alloc (hx1.1.size) _) (fun hHeld => ?_)
    try simp only [lay]
    refine gen_anyL (fun u => Below v2.heap.size v2 u ∧ Ow 37 3 kcs u v2.heap.size (some ⟨x1.heap.size, 0, none⟩) 0 ([] : List Tk) ∧ Bk u v2.heap.size 37 (kcs (⟨Bn, bs l, (v : Int)⟩ : Tk))) ⟨hHeld, Ow.empty x1 v2.heap.size (hx1.1.size), hx1.2.alloc _⟩ (fun x2 hx2 => ?_)
    clear hHeld
    have hlt1 : v2.heap.size < x1.heap.size := hx1.2.lt
    refine wpAnyL_ready (rs := [3]) (by kernel_rfl) (by simp) (AllReadyL.cons rfl (fun K hK => ?_) AllReadyL.nil)
    rw [if_pos (by kernel_rfl)]
    refine op_rows roK (.tmp 163) (.tmp 165) rfl 0 rfl rfl hx2.2.1 tkl _ kk tk rfl HOL.out HNIL.out (HOR.out.on hx2.1) (by have := HFW.out; omega) hx2.1.size kk (Nat.zero_add _) ?_
    intro A1 c3 x3 hox3 hgx3 hbx3
    rw [List.nil_append] at hox3
    refine hK.out _ _ (hx2.1.trans hbx3) (fun hHeld => ?_)
    try simp only [lay]
    refine wpAnyL_ready (rs := [12]) (by kernel_rfl) (by simp) (AllReadyL.cons rfl (fun K hK => ?_) AllReadyL.nil)
    rw [if_pos (by kernel_rfl)]
    refine op_rows roK (.tmp 166) (.tmp 174) rfl kk rfl HOL.out hox3 [(⟨Bn, bs l, (v : Int)⟩ : Tk)] (some ⟨v2.heap.size, 0, none⟩) 1 1 rfl rfl (fun h => by cases h) (Rw.bk ((hgx3.block v2.heap.size hx2.2.2.lt (fun e => by injection e with e; dsimp only at e; omega)).trans hx2.2.2)) (by have := HFW.out; omega) (hx2.1.trans hbx3).size (kk + 1) rfl ?_
    intro A2 c2 x4 ho4 hg4 hb4
    have hbl4 := (hx2.1.trans hbx3).trans hb4
    have hgd4 := HWT.out.below hbl4 HWT.out.lt
    have d4 : x4.cell? ⟨tb0, 4, none⟩ = some (.slice TK kk tk) := hgd4.cell 4
    have f4 := hgd4.frozen 4
    refine hK.out _ _ hbl4 (fun hHeld => ?_)
    try simp only [lay]
    refine takeL (some 176) [14] (i := 13) (v := ?_) rfl rfl (by kernel_rfl) (by kernel_rfl) (by kernel_rfl) (by kernel_rfl) (fun _ _ _ h => h) (Or.inl ⟨by kernel_rfl, ?_⟩) hHeld ?_
    rotate_left
    · intro wz hSw; go_simp; try (with_reducible rfl)
    try simp only [lay]
    refine wpAnyL_ready (rs := [14]) (by kernel_rfl) (by simp) (AllReadyL.last rfl (fun K hK => ?_))
    rw [if_pos (by kernel_rfl)]
    go_simp
    refine hK.out _ _ ?_
    try simp only [lay]
    refine wpAnyL_done (by kernel_rfl) ?_ _
    refine gen_qL (fun u => Bk u tb0 33 #[.string tn, .int .i64 ta, .int .i64 tb, .slice TA nk tc, .slice A2 (kk + 1) c2] ∧ Bk u w.heap.size 24 #[.int .i64 a0, .int .i64 a1, .int .i64 a2, .int .i64 a3, .slice (some ⟨bA, oA, none⟩) (m + 1) c1] ∧ Bk u (w.heap.size + 1) 24 #[.int .i64 0, .int .i64 0, .int .i64 0, .int .i64 0, .slice none 0 0] ∧ Ow 37 3 kcs u v2.heap.size A2 c2 (tkl ++ [(⟨Bn, bs l, (v : Int)⟩ : Tk)]) ∧ Below w.heap.size w u) ⟨?_, ?_, ?_, ?_, ?_⟩ (fun y5 hy5 => ?_)
    · have := hgd4.set 4 (.slice A2 (kk + 1) c2)
      simpa only [List.setIfInBounds_toArray, List.set_cons_zero, List.set_cons_succ] using this
    · exact (HW0.out.below hbl4 HW0.out.lt).far (by show w.heap.size ≠ tb0; have := HTB.out; omega) _
    · exact (HW1.out.below hbl4 HW1.out.lt).far (by show w.heap.size + 1 ≠ tb0; have := HTB.out; omega) _
    · exact ho4.set (p := ⟨tb0, 4, none⟩) HWT.out.lt _
    · exact (HWL.out.trans (hbl4.mono HWL.out.size)).setCell (p := ⟨tb0, 4, none⟩) (by show w.heap.size ≤ tb0; have := HTB.out; omega) _
    clear hHeld hbl4 hgd4 ho4 hg4 hb4 d4 f4
    obtain ⟨yt, yd, yz, yo, yl⟩ := hy5
    have HYT := Lib.hid yt
    have HYD := Lib.hid yd
    have HYZ := Lib.hid yz
    have HYO := Lib.hid yo
    have HYL := Lib.hid yl
    clear yt yd yz yo yl
    have p0 : y5.cell? ⟨w.heap.size, 0, none⟩ = some (.int .i64 a0) := HYD.out.cell 0
    have p1 : y5.cell? ⟨w.heap.size, 1, none⟩ = some (.int .i64 a1) := HYD.out.cell 1
    have p2 : y5.cell? ⟨w.heap.size, 2, none⟩ = some (.int .i64 a2) := HYD.out.cell 2
    have p3 : y5.cell? ⟨w.heap.size, 3, none⟩ = some (.int .i64 a3) := HYD.out.cell 3
    have p4 : y5.cell? ⟨w.heap.size, 4, none⟩ = some (.slice (some ⟨bA, oA, none⟩) (m + 1) c1) := HYD.out.cell 4
    have t0 : y5.cell? ⟨tb0, 0, none⟩ = some (.string tn) := HYT.out.cell 0
    have t1 : y5.cell? ⟨tb0, 1, none⟩ = some (.int .i64 ta) := HYT.out.cell 1
    have t2 : y5.cell? ⟨tb0, 2, none⟩ = some (.int .i64 tb) := HYT.out.cell 2
    have t3 : y5.cell? ⟨tb0, 3, none⟩ = some (.slice TA nk tc) := HYT.out.cell 3
    have t4 : y5.cell? ⟨tb0, 4, none⟩ = some (.slice A2 (kk + 1) c2) := HYT.out.cell 4
    obtain ⟨zt, hzt⟩ : ∃ z : Tv, (⟨⟨tn, ta, tb, tnl, tkl ++ [(⟨Bn, bs l, (v : Int)⟩ : Tk)]⟩, TA, tc, A2, c2⟩ : Tv) = z := ⟨_, rfl⟩
    have hzc : tcs zt = #[.string tn, .int .i64 ta, .int .i64 tb, .slice TA nk tc, .slice A2 (kk + 1) c2] := by rw [← hzt]; simp only [tcs, List.length_append, List.length_singleton, HNK.out, HKK.out]
    have HLA := Lib.hid (rlast_ok a0 a1 a2 a3 bA oA (T ++ [(⟨⟨tn, ta, tb, tnl, tkl⟩, TA, tc, TK, tk⟩ : Tv)]) m c1 zt y5 (HRC.out.r.r.on HYL.out) HN1.out HN9.out HCAP.out.1 HCAP.out.2)
    rw [hzc, HTAK.out] at HLA
    have HZT := Lib.hid hzt
    clear hzt hzc
    cases okx
    all_goals
      go_wp2_with (go_at_call 77; (with_reducible refine HLA.out.mono ?_); rintro e u6 ⟨A3, c4, rfl, ho6, hb6⟩; have HO6 := Lib.hid ho6; have HL6 := Lib.hid (HYL.out.trans (hb6.mono HYL.out.size)); have HN6 := Lib.hid (HYO.out.on hb6); have kz := HYZ.out.below hb6 HYZ.out.lt; clear hb6 ho6; have g0 : u6.cell? ⟨w.heap.size + 1, 0, none⟩ = some (.int .i64 0) := kz.cell 0; have gf0 := kz.frozen 0; have g1 : u6.cell? ⟨w.heap.size + 1, 1, none⟩ = some (.int .i64 0) := kz.cell 1; have gf1 := kz.frozen 1; have g2 : u6.cell? ⟨w.heap.size + 1, 2, none⟩ = some (.int .i64 0) := kz.cell 2; have gf2 := kz.frozen 2; have g3 : u6.cell? ⟨w.heap.size + 1, 3, none⟩ = some (.int .i64 0) := kz.cell 3; have gf3 := kz.frozen 3; have g4 : u6.cell? ⟨w.heap.size + 1, 4, none⟩ = some (.slice none 0 0) := kz.cell 4; have gf4 := kz.frozen 4; have KZ := Lib.hid kz; clear kz)
      have kU := (((((KZ.out.set 0 (.int .i64 a0)).set 1 (.int .i64 a1)).set 2 (.int .i64 a2)).set 3 (.int .i64 a3)).set 4 (.slice A3 (m + 1) c4))
      simp only [List.setIfInBounds_toArray, List.set_cons_zero, List.set_cons_succ] at kU
      have hlow2 := (((((HL6.out.setCell (p := ⟨w.heap.size + 1, 0, none⟩) (by show w.heap.size ≤ w.heap.size + 1; omega) (.int .i64 a0)).setCell (p := ⟨w.heap.size + 1, 1, none⟩) (by show w.heap.size ≤ w.heap.size + 1; omega) (.int .i64 a1)).setCell (p := ⟨w.heap.size + 1, 2, none⟩) (by show w.heap.size ≤ w.heap.size + 1; omega) (.int .i64 a2)).setCell (p := ⟨w.heap.size + 1, 3, none⟩) (by show w.heap.size ≤ w.heap.size + 1; omega) (.int .i64 a3)).setCell (p := ⟨w.heap.size + 1, 4, none⟩) (by show w.heap.size ≤ w.heap.size + 1; omega) (.slice A3 (m + 1) c4))
      have hown2 := (((((HO6.out.set (p := ⟨w.heap.size + 1, 0, none⟩) HYZ.out.lt (.int .i64 a0)).set (p := ⟨w.heap.size + 1, 1, none⟩) HYZ.out.lt (.int .i64 a1)).set (p := ⟨w.heap.size + 1, 2, none⟩) HYZ.out.lt (.int .i64 a2)).set (p := ⟨w.heap.size + 1, 3, none⟩) HYZ.out.lt (.int .i64 a3)).set (p := ⟨w.heap.size + 1, 4, none⟩) HYZ.out.lt (.slice A3 (m + 1) c4))
      have hnew2 := (((((HN6.out.set (p := ⟨w.heap.size + 1, 0, none⟩) HW1.out.lt (.int .i64 a0)).set (p := ⟨w.heap.size + 1, 1, none⟩) HW1.out.lt (.int .i64 a1)).set (p := ⟨w.heap.size + 1, 2, none⟩) HW1.out.lt (.int .i64 a2)).set (p := ⟨w.heap.size + 1, 3, none⟩) HW1.out.lt (.int .i64 a3)).set (p := ⟨w.heap.size + 1, 4, none⟩) HW1.out.lt (.slice A3 (m + 1) c4))
      have hob := HOB.out
      refine bodyPost_ret (v := .tuple #[.agg #[.int .i64 a0, .int .i64 a1, .int .i64 a2, .int .i64 a3, .slice A3 (m + 1) c4], .bool ob]) ?_ rfl ⟨hlow2, ?_⟩
      · have k0 := kU.cell 0; have k1 := kU.cell 1; have k2 := kU.cell 2; have k3 := kU.cell 3; have k4 := kU.cell 4
        simp [results, Tryz.f36, go_sem, k0, k1, k2, k3, k4, ← hob]
      · clear hob
        cases ob with
        | false => exact .inl ⟨⟨a0, a1, a2, a3, T ++ [zt], A3, c4⟩, by simp only [ccs, List.length_append, List.length_singleton, HM.out], HNO.out rfl⟩
        | true => exact .inr ⟨⟨a0, a1, a2, a3, T ++ [zt], A3, c4⟩, by simp only [ccs, List.length_append, List.length_singleton, HM.out], rc_last HRC.out hlow2 hown2 (by rw [← HZT.out]; exact ⟨HTY.out.n.on hlow2, hnew2.rw_ (fun _ => rfl), HTY.out.fn, hnew2.fit, HTY.out.lt, HTY.out.sz, HSZK.out⟩), by rw [HYES.out rfl, ← HZT.out]; simp [Cv.cg]⟩
end Go.Proofs.YtekobdmlgbffnaaGreatDoor
