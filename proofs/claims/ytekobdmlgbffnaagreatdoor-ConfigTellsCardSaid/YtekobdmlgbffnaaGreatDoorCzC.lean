/- The document's own: with: tenants, and a line that it does not take. (Written by gen_czc.py.) -/
import Derived.Test.YtekobdmlgbffnaaGreatDoorG9
namespace Go.Proofs.YtekobdmlgbffnaaGreatDoor
set_option linter.unusedVariables false
set_option maxRecDepth 100000
set_option linter.unusedSimpArgs false
open Go.RowKit

set_option maxRecDepth 100000 in
set_option maxHeartbeats 8000000 in
theorem rwith_o2a (x : Cv) (b o n c : Nat) (k : List UInt8) (ws : List (List UInt8)) (w : World) (hn : (k :: ws).length = n) (hn9 : n ≤ 1099511627) (hlt : b < w.heap.size) (hc0 : w.cell? ⟨b, o, none⟩ = some (.string (bs k))) (T : List Tv) (y : Tv) (hts : x.ts = T ++ [y]) (h : RC w x) (hn9' : x.ts.length ≤ 1099511627)
    (k1 : decide (k = wTimes) = false) (k2 : decide (k = wTenant) = true) (k3 : decide (k = wNet) = false) (k4 : decide (k = wToken) = false) (h4 : n ≠ 4) (hno : withO x.cg false (k :: ws) = none) :
    Calls Tryz.prog 36 #[.agg (ccs x), .bool false, .slice (some ⟨b, o, none⟩) n c] w (WiP x false (k :: ws) w) := by
  obtain ⟨a0, a1, a2, a3, ts, A, c1⟩ := x
  obtain rfl : ts = T ++ [y] := hts
  have h0 : 0 < n := by rw [← hn]; simp
  have h0i : (0 : Int) < (n : Int) := by omega
  have hq : ((bs k).toList == [116, 105, 109, 101, 115]) = false := by rw [is_times, k1]
  have hq2 : ((bs k).toList == [116, 101, 110, 97, 110, 116]) = true := by rw [is_tenant, k2]
  have hq3 : ((bs k).toList == [110, 101, 116]) = false := by rw [is_net, k3]
  have hq4 : ((bs k).toList == [116, 111, 107, 101, 110]) = false := by rw [is_token, k4]
  have q4 : ¬ (n : Int) = 4 := by omega
  obtain ⟨m, hm⟩ : ∃ m, T.length = m := ⟨_, rfl⟩
  have hn1 : (T ++ [y]).length = m + 1 := by rw [List.length_append, hm]; rfl
  have hn9m : m + 1 ≤ 1099511627 := by rw [← hn1]; exact hn9'
  obtain ⟨bA, oA, rfl, hbA, hcA⟩ : ∃ g o', A = some ⟨g, o', none⟩ ∧ g < w.heap.size ∧ ∀ j, j < 5 → w.cell? ⟨g, o' + m * 5 + j, none⟩ = (tcs y)[j]? := by
    have hr : Rw 5 tcs w A (T ++ [y]) := h.r.r
    rcases hr with hr | ⟨g, o', e, hg, hc⟩
    · simp at hr
    · refine ⟨g, o', e, hg, fun j hj => ?_⟩
      have := hc m (by rw [List.length_append, hm]; simp) j hj
      rw [this]
      simp [← hm]
  have HN1 := Lib.hid hn1
  have HRC := Lib.hid h
  obtain ⟨B, hB⟩ : ∃ B, bs k = B := ⟨_, rfl⟩
  rw [hB] at hq hq2 hq3 hq4 hc0
  obtain ⟨⟨tn, ta, tb, tnl, tkl⟩, TA, tc, TK, tk⟩ := y
  obtain ⟨nk, hnk⟩ : ∃ k, tnl.length = k := ⟨_, rfl⟩
  obtain ⟨kk, hkk⟩ : ∃ k, tkl.length = k := ⟨_, rfl⟩
  have hcA0 := hcA 0 (by decide); have hcA1 := hcA 1 (by decide); have hcA2 := hcA 2 (by decide); have hcA3 := hcA 3 (by decide); have hcA4 := hcA 4 (by decide)
  simp only [tcs, hnk, hkk] at hcA3 hcA4
  dsimp only [tcs] at hcA0 hcA1 hcA2
  have hq9 : (m : Int) + 1 ≠ 0 := by omega
  have hwr : wrap64 (m : Int) = (m : Int) := by unfold wrap64; omega
  have hm1 : (m : Int) < (m : Int) + 1 := by omega
  have hm0 : (0 : Int) ≤ (m : Int) := Int.natCast_nonneg m
  clear hn hB hn9' hcA h hnk hkk hm k1 k2 k3 k4
  simp only [ccs, hn1]
  have HB0 := Lib.hid (show Bk ((w.alloc (.cells #[.int .i64 a0, .int .i64 a1, .int .i64 a2, .int .i64 a3, .slice (some ⟨bA, oA, none⟩) (m + 1) c1] 24)).alloc (.cells #[.int .i64 0, .int .i64 0, .int .i64 0, .int .i64 0, .slice none 0 0] 24)) w.heap.size 24 #[.int .i64 a0, .int .i64 a1, .int .i64 a2, .int .i64 a3, .slice (some ⟨bA, oA, none⟩) (m + 1) c1] from (Bk.new w _ _).alloc _)
  have HB1 := Lib.hid (show Bk ((w.alloc (.cells #[.int .i64 a0, .int .i64 a1, .int .i64 a2, .int .i64 a3, .slice (some ⟨bA, oA, none⟩) (m + 1) c1] 24)).alloc (.cells #[.int .i64 0, .int .i64 0, .int .i64 0, .int .i64 0, .slice none 0 0] 24)) (w.heap.size + 1) 24 #[.int .i64 0, .int .i64 0, .int .i64 0, .int .i64 0, .slice none 0 0] by have := Bk.new (w.alloc (.cells #[.int .i64 a0, .int .i64 a1, .int .i64 a2, .int .i64 a3, .slice (some ⟨bA, oA, none⟩) (m + 1) c1] 24)) 24 #[.int .i64 0, .int .i64 0, .int .i64 0, .int .i64 0, .slice none 0 0]; rwa [World.size_alloc] at this)
  have HLO := Lib.hid (show Below w.heap.size w ((w.alloc (.cells #[.int .i64 a0, .int .i64 a1, .int .i64 a2, .int .i64 a3, .slice (some ⟨bA, oA, none⟩) (m + 1) c1] 24)).alloc (.cells #[.int .i64 0, .int .i64 0, .int .i64 0, .int .i64 0, .slice none 0 0] 24)) from ((Below.refl w.heap.size w).alloc (Nat.le_refl _) _).alloc (by rw [World.size_alloc]; omega) _)
  have c0w : ((w.alloc (.cells #[.int .i64 a0, .int .i64 a1, .int .i64 a2, .int .i64 a3, .slice (some ⟨bA, oA, none⟩) (m + 1) c1] 24)).alloc (.cells #[.int .i64 0, .int .i64 0, .int .i64 0, .int .i64 0, .slice none 0 0] 24)).cell? ⟨b, o, none⟩ = some (.string B) := (HLO.out.cell (p := ⟨b, o, none⟩) hlt).trans hc0
  have e0w : ((w.alloc (.cells #[.int .i64 a0, .int .i64 a1, .int .i64 a2, .int .i64 a3, .slice (some ⟨bA, oA, none⟩) (m + 1) c1] 24)).alloc (.cells #[.int .i64 0, .int .i64 0, .int .i64 0, .int .i64 0, .slice none 0 0] 24)).cell? ⟨bA, oA + m * 5, none⟩ = _ := (HLO.out.cell (p := ⟨bA, oA + m * 5, none⟩) hbA).trans hcA0
  have e1w : ((w.alloc (.cells #[.int .i64 a0, .int .i64 a1, .int .i64 a2, .int .i64 a3, .slice (some ⟨bA, oA, none⟩) (m + 1) c1] 24)).alloc (.cells #[.int .i64 0, .int .i64 0, .int .i64 0, .int .i64 0, .slice none 0 0] 24)).cell? ⟨bA, oA + m * 5 + 1, none⟩ = _ := (HLO.out.cell (p := ⟨bA, oA + m * 5 + 1, none⟩) hbA).trans hcA1
  have e2w : ((w.alloc (.cells #[.int .i64 a0, .int .i64 a1, .int .i64 a2, .int .i64 a3, .slice (some ⟨bA, oA, none⟩) (m + 1) c1] 24)).alloc (.cells #[.int .i64 0, .int .i64 0, .int .i64 0, .int .i64 0, .slice none 0 0] 24)).cell? ⟨bA, oA + m * 5 + 2, none⟩ = _ := (HLO.out.cell (p := ⟨bA, oA + m * 5 + 2, none⟩) hbA).trans hcA2
  have e3w : ((w.alloc (.cells #[.int .i64 a0, .int .i64 a1, .int .i64 a2, .int .i64 a3, .slice (some ⟨bA, oA, none⟩) (m + 1) c1] 24)).alloc (.cells #[.int .i64 0, .int .i64 0, .int .i64 0, .int .i64 0, .slice none 0 0] 24)).cell? ⟨bA, oA + m * 5 + 3, none⟩ = _ := (HLO.out.cell (p := ⟨bA, oA + m * 5 + 3, none⟩) hbA).trans hcA3
  have e4w : ((w.alloc (.cells #[.int .i64 a0, .int .i64 a1, .int .i64 a2, .int .i64 a3, .slice (some ⟨bA, oA, none⟩) (m + 1) c1] 24)).alloc (.cells #[.int .i64 0, .int .i64 0, .int .i64 0, .int .i64 0, .slice none 0 0] 24)).cell? ⟨bA, oA + m * 5 + 4, none⟩ = _ := (HLO.out.cell (p := ⟨bA, oA + m * 5 + 4, none⟩) hbA).trans hcA4
  clear hn1
  have HNO := Lib.hid hno
  clear hno
  go_enter Tryz.func36, Tryz.ntmps36
  go_upto_region 1 with fail
  obtain ⟨v0, hv0⟩ : ∃ v, ((w.alloc (.cells #[.int .i64 a0, .int .i64 a1, .int .i64 a2, .int .i64 a3, .slice (some ⟨bA, oA, none⟩) (m + 1) c1] 24)).alloc (.cells #[.int .i64 0, .int .i64 0, .int .i64 0, .int .i64 0, .slice none 0 0] 24)) = v := ⟨_, rfl⟩
  rw [hv0] at HB0 HB1 HLO c0w e0w e1w e2w e3w e4w ⊢
  clear hv0
  have p0 : v0.cell? ⟨w.heap.size, 0, none⟩ = some (.int .i64 a0) := HB0.out.cell 0
  have g0 : v0.cell? ⟨w.heap.size + 1, 0, none⟩ = some (.int .i64 0) := HB1.out.cell 0
  have gf0 := HB1.out.frozen 0
  have p1 : v0.cell? ⟨w.heap.size, 1, none⟩ = some (.int .i64 a1) := HB0.out.cell 1
  have g1 : v0.cell? ⟨w.heap.size + 1, 1, none⟩ = some (.int .i64 0) := HB1.out.cell 1
  have gf1 := HB1.out.frozen 1
  have p2 : v0.cell? ⟨w.heap.size, 2, none⟩ = some (.int .i64 a2) := HB0.out.cell 2
  have g2 : v0.cell? ⟨w.heap.size + 1, 2, none⟩ = some (.int .i64 0) := HB1.out.cell 2
  have gf2 := HB1.out.frozen 2
  have p3 : v0.cell? ⟨w.heap.size, 3, none⟩ = some (.int .i64 a3) := HB0.out.cell 3
  have g3 : v0.cell? ⟨w.heap.size + 1, 3, none⟩ = some (.int .i64 0) := HB1.out.cell 3
  have gf3 := HB1.out.frozen 3
  have p4 : v0.cell? ⟨w.heap.size, 4, none⟩ = some (.slice (some ⟨bA, oA, none⟩) (m + 1) c1) := HB0.out.cell 4
  have g4 : v0.cell? ⟨w.heap.size + 1, 4, none⟩ = some (.slice none 0 0) := HB1.out.cell 4
  have gf4 := HB1.out.frozen 4
  try simp only [List.cons_append, List.nil_append]
  clear p0 p1 p2 p3 g0 g1 g2 g3 g4 gf0 gf1 gf2 gf3 gf4
  have HV0 := Lib.hid (show Bk (v0.alloc (.cells #[.string tn, .int .i64 ta, .int .i64 tb, .slice TA nk tc, .slice TK kk tk] 33)) w.heap.size 24 #[.int .i64 a0, .int .i64 a1, .int .i64 a2, .int .i64 a3, .slice (some ⟨bA, oA, none⟩) (m + 1) c1] from HB0.out.alloc _)
  have HV1 := Lib.hid (show Bk (v0.alloc (.cells #[.string tn, .int .i64 ta, .int .i64 tb, .slice TA nk tc, .slice TK kk tk] 33)) (w.heap.size + 1) 24 #[.int .i64 0, .int .i64 0, .int .i64 0, .int .i64 0, .slice none 0 0] from HB1.out.alloc _)
  have HVT := Lib.hid (show Bk (v0.alloc (.cells #[.string tn, .int .i64 ta, .int .i64 tb, .slice TA nk tc, .slice TK kk tk] 33)) v0.heap.size 33 #[.string tn, .int .i64 ta, .int .i64 tb, .slice TA nk tc, .slice TK kk tk] from Bk.new v0 _ _)
  have HVL := Lib.hid (show Below w.heap.size w (v0.alloc (.cells #[.string tn, .int .i64 ta, .int .i64 tb, .slice TA nk tc, .slice TK kk tk] 33)) from HLO.out.alloc HLO.out.size _)
  have HC0 := Lib.hid hc0
  go_upto_region 18 with fail
  try simp only [List.cons_append, List.nil_append]
  obtain ⟨v1, hv1⟩ : ∃ v, v0.alloc (.cells #[.string tn, .int .i64 ta, .int .i64 tb, .slice TA nk tc, .slice TK kk tk] 33) = v := ⟨_, rfl⟩
  obtain ⟨tb0, htb0⟩ : ∃ g, v0.heap.size = g := ⟨_, rfl⟩
  rw [hv1] at HV0 HV1 HVT HVL ⊢
  rw [htb0] at HVT ⊢
  clear hv1 htb0 HB0 HB1 HLO c0w e0w e1w e2w e3w e4w p4 hcA0 hcA1 hcA2 hcA3 hcA4
  have p0 : v1.cell? ⟨w.heap.size, 0, none⟩ = some (.int .i64 a0) := HV0.out.cell 0
  have g0 : v1.cell? ⟨w.heap.size + 1, 0, none⟩ = some (.int .i64 0) := HV1.out.cell 0
  have gf0 := HV1.out.frozen 0
  have p1 : v1.cell? ⟨w.heap.size, 1, none⟩ = some (.int .i64 a1) := HV0.out.cell 1
  have g1 : v1.cell? ⟨w.heap.size + 1, 1, none⟩ = some (.int .i64 0) := HV1.out.cell 1
  have gf1 := HV1.out.frozen 1
  have p2 : v1.cell? ⟨w.heap.size, 2, none⟩ = some (.int .i64 a2) := HV0.out.cell 2
  have g2 : v1.cell? ⟨w.heap.size + 1, 2, none⟩ = some (.int .i64 0) := HV1.out.cell 2
  have gf2 := HV1.out.frozen 2
  have p3 : v1.cell? ⟨w.heap.size, 3, none⟩ = some (.int .i64 a3) := HV0.out.cell 3
  have g3 : v1.cell? ⟨w.heap.size + 1, 3, none⟩ = some (.int .i64 0) := HV1.out.cell 3
  have gf3 := HV1.out.frozen 3
  have p4 : v1.cell? ⟨w.heap.size, 4, none⟩ = some (.slice (some ⟨bA, oA, none⟩) (m + 1) c1) := HV0.out.cell 4
  have g4 : v1.cell? ⟨w.heap.size + 1, 4, none⟩ = some (.slice none 0 0) := HV1.out.cell 4
  have gf4 := HV1.out.frozen 4
  have tk4 : v1.cell? ⟨tb0, 4, none⟩ = some (.slice TK kk tk) := HVT.out.cell 4
  have cw : v1.cell? ⟨b, o, none⟩ = some (.string B) := (HVL.out.cell (p := ⟨b, o, none⟩) hlt).trans hc0
  go_wp2
  have kU := (((((HV1.out.set 0 (.int .i64 a0)).set 1 (.int .i64 a1)).set 2 (.int .i64 a2)).set 3 (.int .i64 a3)).set 4 (.slice (some ⟨bA, oA, none⟩) (m + 1) c1))
  simp only [List.setIfInBounds_toArray, List.set_cons_zero, List.set_cons_succ] at kU
  refine bodyPost_ret (v := .tuple #[.agg #[.int .i64 a0, .int .i64 a1, .int .i64 a2, .int .i64 a3, .slice (some ⟨bA, oA, none⟩) (m + 1) c1], .bool false]) ?_ rfl ⟨?_, .inl ⟨⟨a0, a1, a2, a3, T ++ [(⟨⟨tn, ta, tb, tnl, tkl⟩, TA, tc, TK, tk⟩ : Tv)], some ⟨bA, oA, none⟩, c1⟩, by simp only [ccs, HN1.out], HNO.out⟩⟩
  · have k0 := kU.cell 0; have k1 := kU.cell 1; have k2 := kU.cell 2; have k3 := kU.cell 3; have k4 := kU.cell 4
    simp [results, Tryz.f36, go_sem, k0, k1, k2, k3, k4]
  · exact (((((HVL.out.setCell (p := ⟨w.heap.size + 1, 0, none⟩) (by show w.heap.size ≤ w.heap.size + 1; omega) _).setCell (p := ⟨w.heap.size + 1, 1, none⟩) (by show w.heap.size ≤ w.heap.size + 1; omega) _).setCell (p := ⟨w.heap.size + 1, 2, none⟩) (by show w.heap.size ≤ w.heap.size + 1; omega) _).setCell (p := ⟨w.heap.size + 1, 3, none⟩) (by show w.heap.size ≤ w.heap.size + 1; omega) _).setCell (p := ⟨w.heap.size + 1, 4, none⟩) (by show w.heap.size ≤ w.heap.size + 1; omega) _)

set_option maxRecDepth 100000 in
set_option maxHeartbeats 8000000 in
theorem rwith_o2b (x : Cv) (b o n c : Nat) (k : List UInt8) (ws : List (List UInt8)) (w : World) (hn : (k :: ws).length = n) (hn9 : n ≤ 1099511627) (hlt : b < w.heap.size) (hc0 : w.cell? ⟨b, o, none⟩ = some (.string (bs k))) (T : List Tv) (y : Tv) (hts : x.ts = T ++ [y]) (h : RC w x) (hn9' : x.ts.length ≤ 1099511627)
    (k1 : decide (k = wTimes) = false) (k2 : decide (k = wTenant) = false) (k3 : decide (k = wNet) = true) (k4 : decide (k = wToken) = false) (h2 : n ≠ 2) (hno : withO x.cg false (k :: ws) = none) :
    Calls Tryz.prog 36 #[.agg (ccs x), .bool false, .slice (some ⟨b, o, none⟩) n c] w (WiP x false (k :: ws) w) := by
  obtain ⟨a0, a1, a2, a3, ts, A, c1⟩ := x
  obtain rfl : ts = T ++ [y] := hts
  have h0 : 0 < n := by rw [← hn]; simp
  have h0i : (0 : Int) < (n : Int) := by omega
  have hq : ((bs k).toList == [116, 105, 109, 101, 115]) = false := by rw [is_times, k1]
  have hq2 : ((bs k).toList == [116, 101, 110, 97, 110, 116]) = false := by rw [is_tenant, k2]
  have hq3 : ((bs k).toList == [110, 101, 116]) = true := by rw [is_net, k3]
  have hq4 : ((bs k).toList == [116, 111, 107, 101, 110]) = false := by rw [is_token, k4]
  have q2 : ¬ (n : Int) = 2 := by omega
  obtain ⟨m, hm⟩ : ∃ m, T.length = m := ⟨_, rfl⟩
  have hn1 : (T ++ [y]).length = m + 1 := by rw [List.length_append, hm]; rfl
  have hn9m : m + 1 ≤ 1099511627 := by rw [← hn1]; exact hn9'
  obtain ⟨bA, oA, rfl, hbA, hcA⟩ : ∃ g o', A = some ⟨g, o', none⟩ ∧ g < w.heap.size ∧ ∀ j, j < 5 → w.cell? ⟨g, o' + m * 5 + j, none⟩ = (tcs y)[j]? := by
    have hr : Rw 5 tcs w A (T ++ [y]) := h.r.r
    rcases hr with hr | ⟨g, o', e, hg, hc⟩
    · simp at hr
    · refine ⟨g, o', e, hg, fun j hj => ?_⟩
      have := hc m (by rw [List.length_append, hm]; simp) j hj
      rw [this]
      simp [← hm]
  have HN1 := Lib.hid hn1
  have HRC := Lib.hid h
  obtain ⟨B, hB⟩ : ∃ B, bs k = B := ⟨_, rfl⟩
  rw [hB] at hq hq2 hq3 hq4 hc0
  obtain ⟨⟨tn, ta, tb, tnl, tkl⟩, TA, tc, TK, tk⟩ := y
  obtain ⟨nk, hnk⟩ : ∃ k, tnl.length = k := ⟨_, rfl⟩
  obtain ⟨kk, hkk⟩ : ∃ k, tkl.length = k := ⟨_, rfl⟩
  have hcA0 := hcA 0 (by decide); have hcA1 := hcA 1 (by decide); have hcA2 := hcA 2 (by decide); have hcA3 := hcA 3 (by decide); have hcA4 := hcA 4 (by decide)
  simp only [tcs, hnk, hkk] at hcA3 hcA4
  dsimp only [tcs] at hcA0 hcA1 hcA2
  have hq9 : (m : Int) + 1 ≠ 0 := by omega
  have hwr : wrap64 (m : Int) = (m : Int) := by unfold wrap64; omega
  have hm1 : (m : Int) < (m : Int) + 1 := by omega
  have hm0 : (0 : Int) ≤ (m : Int) := Int.natCast_nonneg m
  clear hn hB hn9' hcA h hnk hkk hm k1 k2 k3 k4
  simp only [ccs, hn1]
  have HB0 := Lib.hid (show Bk ((w.alloc (.cells #[.int .i64 a0, .int .i64 a1, .int .i64 a2, .int .i64 a3, .slice (some ⟨bA, oA, none⟩) (m + 1) c1] 24)).alloc (.cells #[.int .i64 0, .int .i64 0, .int .i64 0, .int .i64 0, .slice none 0 0] 24)) w.heap.size 24 #[.int .i64 a0, .int .i64 a1, .int .i64 a2, .int .i64 a3, .slice (some ⟨bA, oA, none⟩) (m + 1) c1] from (Bk.new w _ _).alloc _)
  have HB1 := Lib.hid (show Bk ((w.alloc (.cells #[.int .i64 a0, .int .i64 a1, .int .i64 a2, .int .i64 a3, .slice (some ⟨bA, oA, none⟩) (m + 1) c1] 24)).alloc (.cells #[.int .i64 0, .int .i64 0, .int .i64 0, .int .i64 0, .slice none 0 0] 24)) (w.heap.size + 1) 24 #[.int .i64 0, .int .i64 0, .int .i64 0, .int .i64 0, .slice none 0 0] by have := Bk.new (w.alloc (.cells #[.int .i64 a0, .int .i64 a1, .int .i64 a2, .int .i64 a3, .slice (some ⟨bA, oA, none⟩) (m + 1) c1] 24)) 24 #[.int .i64 0, .int .i64 0, .int .i64 0, .int .i64 0, .slice none 0 0]; rwa [World.size_alloc] at this)
  have HLO := Lib.hid (show Below w.heap.size w ((w.alloc (.cells #[.int .i64 a0, .int .i64 a1, .int .i64 a2, .int .i64 a3, .slice (some ⟨bA, oA, none⟩) (m + 1) c1] 24)).alloc (.cells #[.int .i64 0, .int .i64 0, .int .i64 0, .int .i64 0, .slice none 0 0] 24)) from ((Below.refl w.heap.size w).alloc (Nat.le_refl _) _).alloc (by rw [World.size_alloc]; omega) _)
  have c0w : ((w.alloc (.cells #[.int .i64 a0, .int .i64 a1, .int .i64 a2, .int .i64 a3, .slice (some ⟨bA, oA, none⟩) (m + 1) c1] 24)).alloc (.cells #[.int .i64 0, .int .i64 0, .int .i64 0, .int .i64 0, .slice none 0 0] 24)).cell? ⟨b, o, none⟩ = some (.string B) := (HLO.out.cell (p := ⟨b, o, none⟩) hlt).trans hc0
  have e0w : ((w.alloc (.cells #[.int .i64 a0, .int .i64 a1, .int .i64 a2, .int .i64 a3, .slice (some ⟨bA, oA, none⟩) (m + 1) c1] 24)).alloc (.cells #[.int .i64 0, .int .i64 0, .int .i64 0, .int .i64 0, .slice none 0 0] 24)).cell? ⟨bA, oA + m * 5, none⟩ = _ := (HLO.out.cell (p := ⟨bA, oA + m * 5, none⟩) hbA).trans hcA0
  have e1w : ((w.alloc (.cells #[.int .i64 a0, .int .i64 a1, .int .i64 a2, .int .i64 a3, .slice (some ⟨bA, oA, none⟩) (m + 1) c1] 24)).alloc (.cells #[.int .i64 0, .int .i64 0, .int .i64 0, .int .i64 0, .slice none 0 0] 24)).cell? ⟨bA, oA + m * 5 + 1, none⟩ = _ := (HLO.out.cell (p := ⟨bA, oA + m * 5 + 1, none⟩) hbA).trans hcA1
  have e2w : ((w.alloc (.cells #[.int .i64 a0, .int .i64 a1, .int .i64 a2, .int .i64 a3, .slice (some ⟨bA, oA, none⟩) (m + 1) c1] 24)).alloc (.cells #[.int .i64 0, .int .i64 0, .int .i64 0, .int .i64 0, .slice none 0 0] 24)).cell? ⟨bA, oA + m * 5 + 2, none⟩ = _ := (HLO.out.cell (p := ⟨bA, oA + m * 5 + 2, none⟩) hbA).trans hcA2
  have e3w : ((w.alloc (.cells #[.int .i64 a0, .int .i64 a1, .int .i64 a2, .int .i64 a3, .slice (some ⟨bA, oA, none⟩) (m + 1) c1] 24)).alloc (.cells #[.int .i64 0, .int .i64 0, .int .i64 0, .int .i64 0, .slice none 0 0] 24)).cell? ⟨bA, oA + m * 5 + 3, none⟩ = _ := (HLO.out.cell (p := ⟨bA, oA + m * 5 + 3, none⟩) hbA).trans hcA3
  have e4w : ((w.alloc (.cells #[.int .i64 a0, .int .i64 a1, .int .i64 a2, .int .i64 a3, .slice (some ⟨bA, oA, none⟩) (m + 1) c1] 24)).alloc (.cells #[.int .i64 0, .int .i64 0, .int .i64 0, .int .i64 0, .slice none 0 0] 24)).cell? ⟨bA, oA + m * 5 + 4, none⟩ = _ := (HLO.out.cell (p := ⟨bA, oA + m * 5 + 4, none⟩) hbA).trans hcA4
  clear hn1
  have HNO := Lib.hid hno
  clear hno
  go_enter Tryz.func36, Tryz.ntmps36
  go_upto_region 1 with fail
  obtain ⟨v0, hv0⟩ : ∃ v, ((w.alloc (.cells #[.int .i64 a0, .int .i64 a1, .int .i64 a2, .int .i64 a3, .slice (some ⟨bA, oA, none⟩) (m + 1) c1] 24)).alloc (.cells #[.int .i64 0, .int .i64 0, .int .i64 0, .int .i64 0, .slice none 0 0] 24)) = v := ⟨_, rfl⟩
  rw [hv0] at HB0 HB1 HLO c0w e0w e1w e2w e3w e4w ⊢
  clear hv0
  have p0 : v0.cell? ⟨w.heap.size, 0, none⟩ = some (.int .i64 a0) := HB0.out.cell 0
  have g0 : v0.cell? ⟨w.heap.size + 1, 0, none⟩ = some (.int .i64 0) := HB1.out.cell 0
  have gf0 := HB1.out.frozen 0
  have p1 : v0.cell? ⟨w.heap.size, 1, none⟩ = some (.int .i64 a1) := HB0.out.cell 1
  have g1 : v0.cell? ⟨w.heap.size + 1, 1, none⟩ = some (.int .i64 0) := HB1.out.cell 1
  have gf1 := HB1.out.frozen 1
  have p2 : v0.cell? ⟨w.heap.size, 2, none⟩ = some (.int .i64 a2) := HB0.out.cell 2
  have g2 : v0.cell? ⟨w.heap.size + 1, 2, none⟩ = some (.int .i64 0) := HB1.out.cell 2
  have gf2 := HB1.out.frozen 2
  have p3 : v0.cell? ⟨w.heap.size, 3, none⟩ = some (.int .i64 a3) := HB0.out.cell 3
  have g3 : v0.cell? ⟨w.heap.size + 1, 3, none⟩ = some (.int .i64 0) := HB1.out.cell 3
  have gf3 := HB1.out.frozen 3
  have p4 : v0.cell? ⟨w.heap.size, 4, none⟩ = some (.slice (some ⟨bA, oA, none⟩) (m + 1) c1) := HB0.out.cell 4
  have g4 : v0.cell? ⟨w.heap.size + 1, 4, none⟩ = some (.slice none 0 0) := HB1.out.cell 4
  have gf4 := HB1.out.frozen 4
  try simp only [List.cons_append, List.nil_append]
  clear p0 p1 p2 p3 g0 g1 g2 g3 g4 gf0 gf1 gf2 gf3 gf4
  have HV0 := Lib.hid (show Bk (v0.alloc (.cells #[.string tn, .int .i64 ta, .int .i64 tb, .slice TA nk tc, .slice TK kk tk] 33)) w.heap.size 24 #[.int .i64 a0, .int .i64 a1, .int .i64 a2, .int .i64 a3, .slice (some ⟨bA, oA, none⟩) (m + 1) c1] from HB0.out.alloc _)
  have HV1 := Lib.hid (show Bk (v0.alloc (.cells #[.string tn, .int .i64 ta, .int .i64 tb, .slice TA nk tc, .slice TK kk tk] 33)) (w.heap.size + 1) 24 #[.int .i64 0, .int .i64 0, .int .i64 0, .int .i64 0, .slice none 0 0] from HB1.out.alloc _)
  have HVT := Lib.hid (show Bk (v0.alloc (.cells #[.string tn, .int .i64 ta, .int .i64 tb, .slice TA nk tc, .slice TK kk tk] 33)) v0.heap.size 33 #[.string tn, .int .i64 ta, .int .i64 tb, .slice TA nk tc, .slice TK kk tk] from Bk.new v0 _ _)
  have HVL := Lib.hid (show Below w.heap.size w (v0.alloc (.cells #[.string tn, .int .i64 ta, .int .i64 tb, .slice TA nk tc, .slice TK kk tk] 33)) from HLO.out.alloc HLO.out.size _)
  have HC0 := Lib.hid hc0
  go_upto_region 18 with fail
  try simp only [List.cons_append, List.nil_append]
  obtain ⟨v1, hv1⟩ : ∃ v, v0.alloc (.cells #[.string tn, .int .i64 ta, .int .i64 tb, .slice TA nk tc, .slice TK kk tk] 33) = v := ⟨_, rfl⟩
  obtain ⟨tb0, htb0⟩ : ∃ g, v0.heap.size = g := ⟨_, rfl⟩
  rw [hv1] at HV0 HV1 HVT HVL ⊢
  rw [htb0] at HVT ⊢
  clear hv1 htb0 HB0 HB1 HLO c0w e0w e1w e2w e3w e4w p4 hcA0 hcA1 hcA2 hcA3 hcA4
  have p0 : v1.cell? ⟨w.heap.size, 0, none⟩ = some (.int .i64 a0) := HV0.out.cell 0
  have g0 : v1.cell? ⟨w.heap.size + 1, 0, none⟩ = some (.int .i64 0) := HV1.out.cell 0
  have gf0 := HV1.out.frozen 0
  have p1 : v1.cell? ⟨w.heap.size, 1, none⟩ = some (.int .i64 a1) := HV0.out.cell 1
  have g1 : v1.cell? ⟨w.heap.size + 1, 1, none⟩ = some (.int .i64 0) := HV1.out.cell 1
  have gf1 := HV1.out.frozen 1
  have p2 : v1.cell? ⟨w.heap.size, 2, none⟩ = some (.int .i64 a2) := HV0.out.cell 2
  have g2 : v1.cell? ⟨w.heap.size + 1, 2, none⟩ = some (.int .i64 0) := HV1.out.cell 2
  have gf2 := HV1.out.frozen 2
  have p3 : v1.cell? ⟨w.heap.size, 3, none⟩ = some (.int .i64 a3) := HV0.out.cell 3
  have g3 : v1.cell? ⟨w.heap.size + 1, 3, none⟩ = some (.int .i64 0) := HV1.out.cell 3
  have gf3 := HV1.out.frozen 3
  have p4 : v1.cell? ⟨w.heap.size, 4, none⟩ = some (.slice (some ⟨bA, oA, none⟩) (m + 1) c1) := HV0.out.cell 4
  have g4 : v1.cell? ⟨w.heap.size + 1, 4, none⟩ = some (.slice none 0 0) := HV1.out.cell 4
  have gf4 := HV1.out.frozen 4
  have tk4 : v1.cell? ⟨tb0, 4, none⟩ = some (.slice TK kk tk) := HVT.out.cell 4
  have cw : v1.cell? ⟨b, o, none⟩ = some (.string B) := (HVL.out.cell (p := ⟨b, o, none⟩) hlt).trans hc0
  go_wp2
  have kU := (((((HV1.out.set 0 (.int .i64 a0)).set 1 (.int .i64 a1)).set 2 (.int .i64 a2)).set 3 (.int .i64 a3)).set 4 (.slice (some ⟨bA, oA, none⟩) (m + 1) c1))
  simp only [List.setIfInBounds_toArray, List.set_cons_zero, List.set_cons_succ] at kU
  refine bodyPost_ret (v := .tuple #[.agg #[.int .i64 a0, .int .i64 a1, .int .i64 a2, .int .i64 a3, .slice (some ⟨bA, oA, none⟩) (m + 1) c1], .bool false]) ?_ rfl ⟨?_, .inl ⟨⟨a0, a1, a2, a3, T ++ [(⟨⟨tn, ta, tb, tnl, tkl⟩, TA, tc, TK, tk⟩ : Tv)], some ⟨bA, oA, none⟩, c1⟩, by simp only [ccs, HN1.out], HNO.out⟩⟩
  · have k0 := kU.cell 0; have k1 := kU.cell 1; have k2 := kU.cell 2; have k3 := kU.cell 3; have k4 := kU.cell 4
    simp [results, Tryz.f36, go_sem, k0, k1, k2, k3, k4]
  · exact (((((HVL.out.setCell (p := ⟨w.heap.size + 1, 0, none⟩) (by show w.heap.size ≤ w.heap.size + 1; omega) _).setCell (p := ⟨w.heap.size + 1, 1, none⟩) (by show w.heap.size ≤ w.heap.size + 1; omega) _).setCell (p := ⟨w.heap.size + 1, 2, none⟩) (by show w.heap.size ≤ w.heap.size + 1; omega) _).setCell (p := ⟨w.heap.size + 1, 3, none⟩) (by show w.heap.size ≤ w.heap.size + 1; omega) _).setCell (p := ⟨w.heap.size + 1, 4, none⟩) (by show w.heap.size ≤ w.heap.size + 1; omega) _)

set_option maxRecDepth 100000 in
set_option maxHeartbeats 8000000 in
theorem rwith_o2c (x : Cv) (b o n c : Nat) (k : List UInt8) (ws : List (List UInt8)) (w : World) (hn : (k :: ws).length = n) (hn9 : n ≤ 1099511627) (hlt : b < w.heap.size) (hc0 : w.cell? ⟨b, o, none⟩ = some (.string (bs k))) (T : List Tv) (y : Tv) (hts : x.ts = T ++ [y]) (h : RC w x) (hn9' : x.ts.length ≤ 1099511627)
    (k1 : decide (k = wTimes) = false) (k2 : decide (k = wTenant) = false) (k3 : decide (k = wNet) = true) (k4 : decide (k = wToken) = false) (h2 : n = 2) (h3 : y.t.toks ≠ []) (hno : withO x.cg false (k :: ws) = none) :
    Calls Tryz.prog 36 #[.agg (ccs x), .bool false, .slice (some ⟨b, o, none⟩) n c] w (WiP x false (k :: ws) w) := by
  obtain ⟨a0, a1, a2, a3, ts, A, c1⟩ := x
  obtain rfl : ts = T ++ [y] := hts
  have h0 : 0 < n := by rw [← hn]; simp
  have h0i : (0 : Int) < (n : Int) := by omega
  have hq : ((bs k).toList == [116, 105, 109, 101, 115]) = false := by rw [is_times, k1]
  have hq2 : ((bs k).toList == [116, 101, 110, 97, 110, 116]) = false := by rw [is_tenant, k2]
  have hq3 : ((bs k).toList == [110, 101, 116]) = true := by rw [is_net, k3]
  have hq4 : ((bs k).toList == [116, 111, 107, 101, 110]) = false := by rw [is_token, k4]
  obtain ⟨m, hm⟩ : ∃ m, T.length = m := ⟨_, rfl⟩
  have hn1 : (T ++ [y]).length = m + 1 := by rw [List.length_append, hm]; rfl
  have hn9m : m + 1 ≤ 1099511627 := by rw [← hn1]; exact hn9'
  obtain ⟨bA, oA, rfl, hbA, hcA⟩ : ∃ g o', A = some ⟨g, o', none⟩ ∧ g < w.heap.size ∧ ∀ j, j < 5 → w.cell? ⟨g, o' + m * 5 + j, none⟩ = (tcs y)[j]? := by
    have hr : Rw 5 tcs w A (T ++ [y]) := h.r.r
    rcases hr with hr | ⟨g, o', e, hg, hc⟩
    · simp at hr
    · refine ⟨g, o', e, hg, fun j hj => ?_⟩
      have := hc m (by rw [List.length_append, hm]; simp) j hj
      rw [this]
      simp [← hm]
  have HN1 := Lib.hid hn1
  have HRC := Lib.hid h
  obtain ⟨B, hB⟩ : ∃ B, bs k = B := ⟨_, rfl⟩
  rw [hB] at hq hq2 hq3 hq4 hc0
  obtain ⟨⟨tn, ta, tb, tnl, tkl⟩, TA, tc, TK, tk⟩ := y
  obtain ⟨nk, hnk⟩ : ∃ k, tnl.length = k := ⟨_, rfl⟩
  obtain ⟨kk, hkk⟩ : ∃ k, tkl.length = k := ⟨_, rfl⟩
  have hk0 : 0 < kk := by rw [← hkk]; exact List.length_pos_iff.2 h3
  have hk1 : ((kk : Int) == 0) = false := by rw [beq_eq_false_iff_ne]; omega
  have hk2 : ¬ (kk : Int) = 0 := by omega
  subst h2
  clear h3
  have hcA0 := hcA 0 (by decide); have hcA1 := hcA 1 (by decide); have hcA2 := hcA 2 (by decide); have hcA3 := hcA 3 (by decide); have hcA4 := hcA 4 (by decide)
  simp only [tcs, hnk, hkk] at hcA3 hcA4
  dsimp only [tcs] at hcA0 hcA1 hcA2
  have hq9 : (m : Int) + 1 ≠ 0 := by omega
  have hwr : wrap64 (m : Int) = (m : Int) := by unfold wrap64; omega
  have hm1 : (m : Int) < (m : Int) + 1 := by omega
  have hm0 : (0 : Int) ≤ (m : Int) := Int.natCast_nonneg m
  clear hn hB hn9' hcA h hnk hkk hm k1 k2 k3 k4
  simp only [ccs, hn1]
  have HB0 := Lib.hid (show Bk ((w.alloc (.cells #[.int .i64 a0, .int .i64 a1, .int .i64 a2, .int .i64 a3, .slice (some ⟨bA, oA, none⟩) (m + 1) c1] 24)).alloc (.cells #[.int .i64 0, .int .i64 0, .int .i64 0, .int .i64 0, .slice none 0 0] 24)) w.heap.size 24 #[.int .i64 a0, .int .i64 a1, .int .i64 a2, .int .i64 a3, .slice (some ⟨bA, oA, none⟩) (m + 1) c1] from (Bk.new w _ _).alloc _)
  have HB1 := Lib.hid (show Bk ((w.alloc (.cells #[.int .i64 a0, .int .i64 a1, .int .i64 a2, .int .i64 a3, .slice (some ⟨bA, oA, none⟩) (m + 1) c1] 24)).alloc (.cells #[.int .i64 0, .int .i64 0, .int .i64 0, .int .i64 0, .slice none 0 0] 24)) (w.heap.size + 1) 24 #[.int .i64 0, .int .i64 0, .int .i64 0, .int .i64 0, .slice none 0 0] by have := Bk.new (w.alloc (.cells #[.int .i64 a0, .int .i64 a1, .int .i64 a2, .int .i64 a3, .slice (some ⟨bA, oA, none⟩) (m + 1) c1] 24)) 24 #[.int .i64 0, .int .i64 0, .int .i64 0, .int .i64 0, .slice none 0 0]; rwa [World.size_alloc] at this)
  have HLO := Lib.hid (show Below w.heap.size w ((w.alloc (.cells #[.int .i64 a0, .int .i64 a1, .int .i64 a2, .int .i64 a3, .slice (some ⟨bA, oA, none⟩) (m + 1) c1] 24)).alloc (.cells #[.int .i64 0, .int .i64 0, .int .i64 0, .int .i64 0, .slice none 0 0] 24)) from ((Below.refl w.heap.size w).alloc (Nat.le_refl _) _).alloc (by rw [World.size_alloc]; omega) _)
  have c0w : ((w.alloc (.cells #[.int .i64 a0, .int .i64 a1, .int .i64 a2, .int .i64 a3, .slice (some ⟨bA, oA, none⟩) (m + 1) c1] 24)).alloc (.cells #[.int .i64 0, .int .i64 0, .int .i64 0, .int .i64 0, .slice none 0 0] 24)).cell? ⟨b, o, none⟩ = some (.string B) := (HLO.out.cell (p := ⟨b, o, none⟩) hlt).trans hc0
  have e0w : ((w.alloc (.cells #[.int .i64 a0, .int .i64 a1, .int .i64 a2, .int .i64 a3, .slice (some ⟨bA, oA, none⟩) (m + 1) c1] 24)).alloc (.cells #[.int .i64 0, .int .i64 0, .int .i64 0, .int .i64 0, .slice none 0 0] 24)).cell? ⟨bA, oA + m * 5, none⟩ = _ := (HLO.out.cell (p := ⟨bA, oA + m * 5, none⟩) hbA).trans hcA0
  have e1w : ((w.alloc (.cells #[.int .i64 a0, .int .i64 a1, .int .i64 a2, .int .i64 a3, .slice (some ⟨bA, oA, none⟩) (m + 1) c1] 24)).alloc (.cells #[.int .i64 0, .int .i64 0, .int .i64 0, .int .i64 0, .slice none 0 0] 24)).cell? ⟨bA, oA + m * 5 + 1, none⟩ = _ := (HLO.out.cell (p := ⟨bA, oA + m * 5 + 1, none⟩) hbA).trans hcA1
  have e2w : ((w.alloc (.cells #[.int .i64 a0, .int .i64 a1, .int .i64 a2, .int .i64 a3, .slice (some ⟨bA, oA, none⟩) (m + 1) c1] 24)).alloc (.cells #[.int .i64 0, .int .i64 0, .int .i64 0, .int .i64 0, .slice none 0 0] 24)).cell? ⟨bA, oA + m * 5 + 2, none⟩ = _ := (HLO.out.cell (p := ⟨bA, oA + m * 5 + 2, none⟩) hbA).trans hcA2
  have e3w : ((w.alloc (.cells #[.int .i64 a0, .int .i64 a1, .int .i64 a2, .int .i64 a3, .slice (some ⟨bA, oA, none⟩) (m + 1) c1] 24)).alloc (.cells #[.int .i64 0, .int .i64 0, .int .i64 0, .int .i64 0, .slice none 0 0] 24)).cell? ⟨bA, oA + m * 5 + 3, none⟩ = _ := (HLO.out.cell (p := ⟨bA, oA + m * 5 + 3, none⟩) hbA).trans hcA3
  have e4w : ((w.alloc (.cells #[.int .i64 a0, .int .i64 a1, .int .i64 a2, .int .i64 a3, .slice (some ⟨bA, oA, none⟩) (m + 1) c1] 24)).alloc (.cells #[.int .i64 0, .int .i64 0, .int .i64 0, .int .i64 0, .slice none 0 0] 24)).cell? ⟨bA, oA + m * 5 + 4, none⟩ = _ := (HLO.out.cell (p := ⟨bA, oA + m * 5 + 4, none⟩) hbA).trans hcA4
  clear hn1
  have HNO := Lib.hid hno
  clear hno
  go_enter Tryz.func36, Tryz.ntmps36
  go_upto_region 1 with fail
  obtain ⟨v0, hv0⟩ : ∃ v, ((w.alloc (.cells #[.int .i64 a0, .int .i64 a1, .int .i64 a2, .int .i64 a3, .slice (some ⟨bA, oA, none⟩) (m + 1) c1] 24)).alloc (.cells #[.int .i64 0, .int .i64 0, .int .i64 0, .int .i64 0, .slice none 0 0] 24)) = v := ⟨_, rfl⟩
  rw [hv0] at HB0 HB1 HLO c0w e0w e1w e2w e3w e4w ⊢
  clear hv0
  have p0 : v0.cell? ⟨w.heap.size, 0, none⟩ = some (.int .i64 a0) := HB0.out.cell 0
  have g0 : v0.cell? ⟨w.heap.size + 1, 0, none⟩ = some (.int .i64 0) := HB1.out.cell 0
  have gf0 := HB1.out.frozen 0
  have p1 : v0.cell? ⟨w.heap.size, 1, none⟩ = some (.int .i64 a1) := HB0.out.cell 1
  have g1 : v0.cell? ⟨w.heap.size + 1, 1, none⟩ = some (.int .i64 0) := HB1.out.cell 1
  have gf1 := HB1.out.frozen 1
  have p2 : v0.cell? ⟨w.heap.size, 2, none⟩ = some (.int .i64 a2) := HB0.out.cell 2
  have g2 : v0.cell? ⟨w.heap.size + 1, 2, none⟩ = some (.int .i64 0) := HB1.out.cell 2
  have gf2 := HB1.out.frozen 2
  have p3 : v0.cell? ⟨w.heap.size, 3, none⟩ = some (.int .i64 a3) := HB0.out.cell 3
  have g3 : v0.cell? ⟨w.heap.size + 1, 3, none⟩ = some (.int .i64 0) := HB1.out.cell 3
  have gf3 := HB1.out.frozen 3
  have p4 : v0.cell? ⟨w.heap.size, 4, none⟩ = some (.slice (some ⟨bA, oA, none⟩) (m + 1) c1) := HB0.out.cell 4
  have g4 : v0.cell? ⟨w.heap.size + 1, 4, none⟩ = some (.slice none 0 0) := HB1.out.cell 4
  have gf4 := HB1.out.frozen 4
  try simp only [List.cons_append, List.nil_append]
  clear p0 p1 p2 p3 g0 g1 g2 g3 g4 gf0 gf1 gf2 gf3 gf4
  have HV0 := Lib.hid (show Bk (v0.alloc (.cells #[.string tn, .int .i64 ta, .int .i64 tb, .slice TA nk tc, .slice TK kk tk] 33)) w.heap.size 24 #[.int .i64 a0, .int .i64 a1, .int .i64 a2, .int .i64 a3, .slice (some ⟨bA, oA, none⟩) (m + 1) c1] from HB0.out.alloc _)
  have HV1 := Lib.hid (show Bk (v0.alloc (.cells #[.string tn, .int .i64 ta, .int .i64 tb, .slice TA nk tc, .slice TK kk tk] 33)) (w.heap.size + 1) 24 #[.int .i64 0, .int .i64 0, .int .i64 0, .int .i64 0, .slice none 0 0] from HB1.out.alloc _)
  have HVT := Lib.hid (show Bk (v0.alloc (.cells #[.string tn, .int .i64 ta, .int .i64 tb, .slice TA nk tc, .slice TK kk tk] 33)) v0.heap.size 33 #[.string tn, .int .i64 ta, .int .i64 tb, .slice TA nk tc, .slice TK kk tk] from Bk.new v0 _ _)
  have HVL := Lib.hid (show Below w.heap.size w (v0.alloc (.cells #[.string tn, .int .i64 ta, .int .i64 tb, .slice TA nk tc, .slice TK kk tk] 33)) from HLO.out.alloc HLO.out.size _)
  have HC0 := Lib.hid hc0
  go_upto_region 18 with fail
  try simp only [List.cons_append, List.nil_append]
  obtain ⟨v1, hv1⟩ : ∃ v, v0.alloc (.cells #[.string tn, .int .i64 ta, .int .i64 tb, .slice TA nk tc, .slice TK kk tk] 33) = v := ⟨_, rfl⟩
  obtain ⟨tb0, htb0⟩ : ∃ g, v0.heap.size = g := ⟨_, rfl⟩
  rw [hv1] at HV0 HV1 HVT HVL ⊢
  rw [htb0] at HVT ⊢
  clear hv1 htb0 HB0 HB1 HLO c0w e0w e1w e2w e3w e4w p4 hcA0 hcA1 hcA2 hcA3 hcA4
  have p0 : v1.cell? ⟨w.heap.size, 0, none⟩ = some (.int .i64 a0) := HV0.out.cell 0
  have g0 : v1.cell? ⟨w.heap.size + 1, 0, none⟩ = some (.int .i64 0) := HV1.out.cell 0
  have gf0 := HV1.out.frozen 0
  have p1 : v1.cell? ⟨w.heap.size, 1, none⟩ = some (.int .i64 a1) := HV0.out.cell 1
  have g1 : v1.cell? ⟨w.heap.size + 1, 1, none⟩ = some (.int .i64 0) := HV1.out.cell 1
  have gf1 := HV1.out.frozen 1
  have p2 : v1.cell? ⟨w.heap.size, 2, none⟩ = some (.int .i64 a2) := HV0.out.cell 2
  have g2 : v1.cell? ⟨w.heap.size + 1, 2, none⟩ = some (.int .i64 0) := HV1.out.cell 2
  have gf2 := HV1.out.frozen 2
  have p3 : v1.cell? ⟨w.heap.size, 3, none⟩ = some (.int .i64 a3) := HV0.out.cell 3
  have g3 : v1.cell? ⟨w.heap.size + 1, 3, none⟩ = some (.int .i64 0) := HV1.out.cell 3
  have gf3 := HV1.out.frozen 3
  have p4 : v1.cell? ⟨w.heap.size, 4, none⟩ = some (.slice (some ⟨bA, oA, none⟩) (m + 1) c1) := HV0.out.cell 4
  have g4 : v1.cell? ⟨w.heap.size + 1, 4, none⟩ = some (.slice none 0 0) := HV1.out.cell 4
  have gf4 := HV1.out.frozen 4
  have tk4 : v1.cell? ⟨tb0, 4, none⟩ = some (.slice TK kk tk) := HVT.out.cell 4
  have cw : v1.cell? ⟨b, o, none⟩ = some (.string B) := (HVL.out.cell (p := ⟨b, o, none⟩) hlt).trans hc0
  go_wp2
  have kU := (((((HV1.out.set 0 (.int .i64 a0)).set 1 (.int .i64 a1)).set 2 (.int .i64 a2)).set 3 (.int .i64 a3)).set 4 (.slice (some ⟨bA, oA, none⟩) (m + 1) c1))
  simp only [List.setIfInBounds_toArray, List.set_cons_zero, List.set_cons_succ] at kU
  refine bodyPost_ret (v := .tuple #[.agg #[.int .i64 a0, .int .i64 a1, .int .i64 a2, .int .i64 a3, .slice (some ⟨bA, oA, none⟩) (m + 1) c1], .bool false]) ?_ rfl ⟨?_, .inl ⟨⟨a0, a1, a2, a3, T ++ [(⟨⟨tn, ta, tb, tnl, tkl⟩, TA, tc, TK, tk⟩ : Tv)], some ⟨bA, oA, none⟩, c1⟩, by simp only [ccs, HN1.out], HNO.out⟩⟩
  · have k0 := kU.cell 0; have k1 := kU.cell 1; have k2 := kU.cell 2; have k3 := kU.cell 3; have k4 := kU.cell 4
    simp [results, Tryz.f36, go_sem, k0, k1, k2, k3, k4]
  · exact (((((HVL.out.setCell (p := ⟨w.heap.size + 1, 0, none⟩) (by show w.heap.size ≤ w.heap.size + 1; omega) _).setCell (p := ⟨w.heap.size + 1, 1, none⟩) (by show w.heap.size ≤ w.heap.size + 1; omega) _).setCell (p := ⟨w.heap.size + 1, 2, none⟩) (by show w.heap.size ≤ w.heap.size + 1; omega) _).setCell (p := ⟨w.heap.size + 1, 3, none⟩) (by show w.heap.size ≤ w.heap.size + 1; omega) _).setCell (p := ⟨w.heap.size + 1, 4, none⟩) (by show w.heap.size ≤ w.heap.size + 1; omega) _)

set_option maxRecDepth 100000 in
set_option maxHeartbeats 8000000 in
theorem rwith_o2d (x : Cv) (b o n c : Nat) (k : List UInt8) (ws : List (List UInt8)) (w : World) (hn : (k :: ws).length = n) (hn9 : n ≤ 1099511627) (hlt : b < w.heap.size) (hc0 : w.cell? ⟨b, o, none⟩ = some (.string (bs k))) (T : List Tv) (y : Tv) (hts : x.ts = T ++ [y]) (h : RC w x) (hn9' : x.ts.length ≤ 1099511627)
    (k1 : decide (k = wTimes) = false) (k2 : decide (k = wTenant) = false) (k3 : decide (k = wNet) = false) (k4 : decide (k = wToken) = true) (h6 : n ≠ 4) (hno : withO x.cg false (k :: ws) = none) :
    Calls Tryz.prog 36 #[.agg (ccs x), .bool false, .slice (some ⟨b, o, none⟩) n c] w (WiP x false (k :: ws) w) := by
  obtain ⟨a0, a1, a2, a3, ts, A, c1⟩ := x
  obtain rfl : ts = T ++ [y] := hts
  have h0 : 0 < n := by rw [← hn]; simp
  have h0i : (0 : Int) < (n : Int) := by omega
  have hq : ((bs k).toList == [116, 105, 109, 101, 115]) = false := by rw [is_times, k1]
  have hq2 : ((bs k).toList == [116, 101, 110, 97, 110, 116]) = false := by rw [is_tenant, k2]
  have hq3 : ((bs k).toList == [110, 101, 116]) = false := by rw [is_net, k3]
  have hq4 : ((bs k).toList == [116, 111, 107, 101, 110]) = true := by rw [is_token, k4]
  have q6 : ¬ (n : Int) = 4 := by omega
  obtain ⟨m, hm⟩ : ∃ m, T.length = m := ⟨_, rfl⟩
  have hn1 : (T ++ [y]).length = m + 1 := by rw [List.length_append, hm]; rfl
  have hn9m : m + 1 ≤ 1099511627 := by rw [← hn1]; exact hn9'
  obtain ⟨bA, oA, rfl, hbA, hcA⟩ : ∃ g o', A = some ⟨g, o', none⟩ ∧ g < w.heap.size ∧ ∀ j, j < 5 → w.cell? ⟨g, o' + m * 5 + j, none⟩ = (tcs y)[j]? := by
    have hr : Rw 5 tcs w A (T ++ [y]) := h.r.r
    rcases hr with hr | ⟨g, o', e, hg, hc⟩
    · simp at hr
    · refine ⟨g, o', e, hg, fun j hj => ?_⟩
      have := hc m (by rw [List.length_append, hm]; simp) j hj
      rw [this]
      simp [← hm]
  have HN1 := Lib.hid hn1
  have HRC := Lib.hid h
  obtain ⟨B, hB⟩ : ∃ B, bs k = B := ⟨_, rfl⟩
  rw [hB] at hq hq2 hq3 hq4 hc0
  obtain ⟨⟨tn, ta, tb, tnl, tkl⟩, TA, tc, TK, tk⟩ := y
  obtain ⟨nk, hnk⟩ : ∃ k, tnl.length = k := ⟨_, rfl⟩
  obtain ⟨kk, hkk⟩ : ∃ k, tkl.length = k := ⟨_, rfl⟩
  have hcA0 := hcA 0 (by decide); have hcA1 := hcA 1 (by decide); have hcA2 := hcA 2 (by decide); have hcA3 := hcA 3 (by decide); have hcA4 := hcA 4 (by decide)
  simp only [tcs, hnk, hkk] at hcA3 hcA4
  dsimp only [tcs] at hcA0 hcA1 hcA2
  have hq9 : (m : Int) + 1 ≠ 0 := by omega
  have hwr : wrap64 (m : Int) = (m : Int) := by unfold wrap64; omega
  have hm1 : (m : Int) < (m : Int) + 1 := by omega
  have hm0 : (0 : Int) ≤ (m : Int) := Int.natCast_nonneg m
  clear hn hB hn9' hcA h hnk hkk hm k1 k2 k3 k4
  simp only [ccs, hn1]
  have HB0 := Lib.hid (show Bk ((w.alloc (.cells #[.int .i64 a0, .int .i64 a1, .int .i64 a2, .int .i64 a3, .slice (some ⟨bA, oA, none⟩) (m + 1) c1] 24)).alloc (.cells #[.int .i64 0, .int .i64 0, .int .i64 0, .int .i64 0, .slice none 0 0] 24)) w.heap.size 24 #[.int .i64 a0, .int .i64 a1, .int .i64 a2, .int .i64 a3, .slice (some ⟨bA, oA, none⟩) (m + 1) c1] from (Bk.new w _ _).alloc _)
  have HB1 := Lib.hid (show Bk ((w.alloc (.cells #[.int .i64 a0, .int .i64 a1, .int .i64 a2, .int .i64 a3, .slice (some ⟨bA, oA, none⟩) (m + 1) c1] 24)).alloc (.cells #[.int .i64 0, .int .i64 0, .int .i64 0, .int .i64 0, .slice none 0 0] 24)) (w.heap.size + 1) 24 #[.int .i64 0, .int .i64 0, .int .i64 0, .int .i64 0, .slice none 0 0] by have := Bk.new (w.alloc (.cells #[.int .i64 a0, .int .i64 a1, .int .i64 a2, .int .i64 a3, .slice (some ⟨bA, oA, none⟩) (m + 1) c1] 24)) 24 #[.int .i64 0, .int .i64 0, .int .i64 0, .int .i64 0, .slice none 0 0]; rwa [World.size_alloc] at this)
  have HLO := Lib.hid (show Below w.heap.size w ((w.alloc (.cells #[.int .i64 a0, .int .i64 a1, .int .i64 a2, .int .i64 a3, .slice (some ⟨bA, oA, none⟩) (m + 1) c1] 24)).alloc (.cells #[.int .i64 0, .int .i64 0, .int .i64 0, .int .i64 0, .slice none 0 0] 24)) from ((Below.refl w.heap.size w).alloc (Nat.le_refl _) _).alloc (by rw [World.size_alloc]; omega) _)
  have c0w : ((w.alloc (.cells #[.int .i64 a0, .int .i64 a1, .int .i64 a2, .int .i64 a3, .slice (some ⟨bA, oA, none⟩) (m + 1) c1] 24)).alloc (.cells #[.int .i64 0, .int .i64 0, .int .i64 0, .int .i64 0, .slice none 0 0] 24)).cell? ⟨b, o, none⟩ = some (.string B) := (HLO.out.cell (p := ⟨b, o, none⟩) hlt).trans hc0
  have e0w : ((w.alloc (.cells #[.int .i64 a0, .int .i64 a1, .int .i64 a2, .int .i64 a3, .slice (some ⟨bA, oA, none⟩) (m + 1) c1] 24)).alloc (.cells #[.int .i64 0, .int .i64 0, .int .i64 0, .int .i64 0, .slice none 0 0] 24)).cell? ⟨bA, oA + m * 5, none⟩ = _ := (HLO.out.cell (p := ⟨bA, oA + m * 5, none⟩) hbA).trans hcA0
  have e1w : ((w.alloc (.cells #[.int .i64 a0, .int .i64 a1, .int .i64 a2, .int .i64 a3, .slice (some ⟨bA, oA, none⟩) (m + 1) c1] 24)).alloc (.cells #[.int .i64 0, .int .i64 0, .int .i64 0, .int .i64 0, .slice none 0 0] 24)).cell? ⟨bA, oA + m * 5 + 1, none⟩ = _ := (HLO.out.cell (p := ⟨bA, oA + m * 5 + 1, none⟩) hbA).trans hcA1
  have e2w : ((w.alloc (.cells #[.int .i64 a0, .int .i64 a1, .int .i64 a2, .int .i64 a3, .slice (some ⟨bA, oA, none⟩) (m + 1) c1] 24)).alloc (.cells #[.int .i64 0, .int .i64 0, .int .i64 0, .int .i64 0, .slice none 0 0] 24)).cell? ⟨bA, oA + m * 5 + 2, none⟩ = _ := (HLO.out.cell (p := ⟨bA, oA + m * 5 + 2, none⟩) hbA).trans hcA2
  have e3w : ((w.alloc (.cells #[.int .i64 a0, .int .i64 a1, .int .i64 a2, .int .i64 a3, .slice (some ⟨bA, oA, none⟩) (m + 1) c1] 24)).alloc (.cells #[.int .i64 0, .int .i64 0, .int .i64 0, .int .i64 0, .slice none 0 0] 24)).cell? ⟨bA, oA + m * 5 + 3, none⟩ = _ := (HLO.out.cell (p := ⟨bA, oA + m * 5 + 3, none⟩) hbA).trans hcA3
  have e4w : ((w.alloc (.cells #[.int .i64 a0, .int .i64 a1, .int .i64 a2, .int .i64 a3, .slice (some ⟨bA, oA, none⟩) (m + 1) c1] 24)).alloc (.cells #[.int .i64 0, .int .i64 0, .int .i64 0, .int .i64 0, .slice none 0 0] 24)).cell? ⟨bA, oA + m * 5 + 4, none⟩ = _ := (HLO.out.cell (p := ⟨bA, oA + m * 5 + 4, none⟩) hbA).trans hcA4
  clear hn1
  have HNO := Lib.hid hno
  clear hno
  go_enter Tryz.func36, Tryz.ntmps36
  go_upto_region 1 with fail
  obtain ⟨v0, hv0⟩ : ∃ v, ((w.alloc (.cells #[.int .i64 a0, .int .i64 a1, .int .i64 a2, .int .i64 a3, .slice (some ⟨bA, oA, none⟩) (m + 1) c1] 24)).alloc (.cells #[.int .i64 0, .int .i64 0, .int .i64 0, .int .i64 0, .slice none 0 0] 24)) = v := ⟨_, rfl⟩
  rw [hv0] at HB0 HB1 HLO c0w e0w e1w e2w e3w e4w ⊢
  clear hv0
  have p0 : v0.cell? ⟨w.heap.size, 0, none⟩ = some (.int .i64 a0) := HB0.out.cell 0
  have g0 : v0.cell? ⟨w.heap.size + 1, 0, none⟩ = some (.int .i64 0) := HB1.out.cell 0
  have gf0 := HB1.out.frozen 0
  have p1 : v0.cell? ⟨w.heap.size, 1, none⟩ = some (.int .i64 a1) := HB0.out.cell 1
  have g1 : v0.cell? ⟨w.heap.size + 1, 1, none⟩ = some (.int .i64 0) := HB1.out.cell 1
  have gf1 := HB1.out.frozen 1
  have p2 : v0.cell? ⟨w.heap.size, 2, none⟩ = some (.int .i64 a2) := HB0.out.cell 2
  have g2 : v0.cell? ⟨w.heap.size + 1, 2, none⟩ = some (.int .i64 0) := HB1.out.cell 2
  have gf2 := HB1.out.frozen 2
  have p3 : v0.cell? ⟨w.heap.size, 3, none⟩ = some (.int .i64 a3) := HB0.out.cell 3
  have g3 : v0.cell? ⟨w.heap.size + 1, 3, none⟩ = some (.int .i64 0) := HB1.out.cell 3
  have gf3 := HB1.out.frozen 3
  have p4 : v0.cell? ⟨w.heap.size, 4, none⟩ = some (.slice (some ⟨bA, oA, none⟩) (m + 1) c1) := HB0.out.cell 4
  have g4 : v0.cell? ⟨w.heap.size + 1, 4, none⟩ = some (.slice none 0 0) := HB1.out.cell 4
  have gf4 := HB1.out.frozen 4
  try simp only [List.cons_append, List.nil_append]
  clear p0 p1 p2 p3 g0 g1 g2 g3 g4 gf0 gf1 gf2 gf3 gf4
  have HV0 := Lib.hid (show Bk (v0.alloc (.cells #[.string tn, .int .i64 ta, .int .i64 tb, .slice TA nk tc, .slice TK kk tk] 33)) w.heap.size 24 #[.int .i64 a0, .int .i64 a1, .int .i64 a2, .int .i64 a3, .slice (some ⟨bA, oA, none⟩) (m + 1) c1] from HB0.out.alloc _)
  have HV1 := Lib.hid (show Bk (v0.alloc (.cells #[.string tn, .int .i64 ta, .int .i64 tb, .slice TA nk tc, .slice TK kk tk] 33)) (w.heap.size + 1) 24 #[.int .i64 0, .int .i64 0, .int .i64 0, .int .i64 0, .slice none 0 0] from HB1.out.alloc _)
  have HVT := Lib.hid (show Bk (v0.alloc (.cells #[.string tn, .int .i64 ta, .int .i64 tb, .slice TA nk tc, .slice TK kk tk] 33)) v0.heap.size 33 #[.string tn, .int .i64 ta, .int .i64 tb, .slice TA nk tc, .slice TK kk tk] from Bk.new v0 _ _)
  have HVL := Lib.hid (show Below w.heap.size w (v0.alloc (.cells #[.string tn, .int .i64 ta, .int .i64 tb, .slice TA nk tc, .slice TK kk tk] 33)) from HLO.out.alloc HLO.out.size _)
  have HC0 := Lib.hid hc0
  go_upto_region 18 with fail
  try simp only [List.cons_append, List.nil_append]
  obtain ⟨v1, hv1⟩ : ∃ v, v0.alloc (.cells #[.string tn, .int .i64 ta, .int .i64 tb, .slice TA nk tc, .slice TK kk tk] 33) = v := ⟨_, rfl⟩
  obtain ⟨tb0, htb0⟩ : ∃ g, v0.heap.size = g := ⟨_, rfl⟩
  rw [hv1] at HV0 HV1 HVT HVL ⊢
  rw [htb0] at HVT ⊢
  clear hv1 htb0 HB0 HB1 HLO c0w e0w e1w e2w e3w e4w p4 hcA0 hcA1 hcA2 hcA3 hcA4
  have p0 : v1.cell? ⟨w.heap.size, 0, none⟩ = some (.int .i64 a0) := HV0.out.cell 0
  have g0 : v1.cell? ⟨w.heap.size + 1, 0, none⟩ = some (.int .i64 0) := HV1.out.cell 0
  have gf0 := HV1.out.frozen 0
  have p1 : v1.cell? ⟨w.heap.size, 1, none⟩ = some (.int .i64 a1) := HV0.out.cell 1
  have g1 : v1.cell? ⟨w.heap.size + 1, 1, none⟩ = some (.int .i64 0) := HV1.out.cell 1
  have gf1 := HV1.out.frozen 1
  have p2 : v1.cell? ⟨w.heap.size, 2, none⟩ = some (.int .i64 a2) := HV0.out.cell 2
  have g2 : v1.cell? ⟨w.heap.size + 1, 2, none⟩ = some (.int .i64 0) := HV1.out.cell 2
  have gf2 := HV1.out.frozen 2
  have p3 : v1.cell? ⟨w.heap.size, 3, none⟩ = some (.int .i64 a3) := HV0.out.cell 3
  have g3 : v1.cell? ⟨w.heap.size + 1, 3, none⟩ = some (.int .i64 0) := HV1.out.cell 3
  have gf3 := HV1.out.frozen 3
  have p4 : v1.cell? ⟨w.heap.size, 4, none⟩ = some (.slice (some ⟨bA, oA, none⟩) (m + 1) c1) := HV0.out.cell 4
  have g4 : v1.cell? ⟨w.heap.size + 1, 4, none⟩ = some (.slice none 0 0) := HV1.out.cell 4
  have gf4 := HV1.out.frozen 4
  have tk4 : v1.cell? ⟨tb0, 4, none⟩ = some (.slice TK kk tk) := HVT.out.cell 4
  have cw : v1.cell? ⟨b, o, none⟩ = some (.string B) := (HVL.out.cell (p := ⟨b, o, none⟩) hlt).trans hc0
  go_wp2
  have kU := (((((HV1.out.set 0 (.int .i64 a0)).set 1 (.int .i64 a1)).set 2 (.int .i64 a2)).set 3 (.int .i64 a3)).set 4 (.slice (some ⟨bA, oA, none⟩) (m + 1) c1))
  simp only [List.setIfInBounds_toArray, List.set_cons_zero, List.set_cons_succ] at kU
  refine bodyPost_ret (v := .tuple #[.agg #[.int .i64 a0, .int .i64 a1, .int .i64 a2, .int .i64 a3, .slice (some ⟨bA, oA, none⟩) (m + 1) c1], .bool false]) ?_ rfl ⟨?_, .inl ⟨⟨a0, a1, a2, a3, T ++ [(⟨⟨tn, ta, tb, tnl, tkl⟩, TA, tc, TK, tk⟩ : Tv)], some ⟨bA, oA, none⟩, c1⟩, by simp only [ccs, HN1.out], HNO.out⟩⟩
  · have k0 := kU.cell 0; have k1 := kU.cell 1; have k2 := kU.cell 2; have k3 := kU.cell 3; have k4 := kU.cell 4
    simp [results, Tryz.f36, go_sem, k0, k1, k2, k3, k4]
  · exact (((((HVL.out.setCell (p := ⟨w.heap.size + 1, 0, none⟩) (by show w.heap.size ≤ w.heap.size + 1; omega) _).setCell (p := ⟨w.heap.size + 1, 1, none⟩) (by show w.heap.size ≤ w.heap.size + 1; omega) _).setCell (p := ⟨w.heap.size + 1, 2, none⟩) (by show w.heap.size ≤ w.heap.size + 1; omega) _).setCell (p := ⟨w.heap.size + 1, 3, none⟩) (by show w.heap.size ≤ w.heap.size + 1; omega) _).setCell (p := ⟨w.heap.size + 1, 4, none⟩) (by show w.heap.size ≤ w.heap.size + 1; omega) _)

set_option maxRecDepth 100000 in
set_option maxHeartbeats 8000000 in
theorem rwith_o2e (x : Cv) (b o n c : Nat) (k : List UInt8) (ws : List (List UInt8)) (w : World) (hn : (k :: ws).length = n) (hn9 : n ≤ 1099511627) (hlt : b < w.heap.size) (hc0 : w.cell? ⟨b, o, none⟩ = some (.string (bs k))) (T : List Tv) (y : Tv) (hts : x.ts = T ++ [y]) (h : RC w x) (hn9' : x.ts.length ≤ 1099511627)
    (k1 : decide (k = wTimes) = false) (k2 : decide (k = wTenant) = false) (k3 : decide (k = wNet) = false) (k4 : decide (k = wToken) = false) (hno : withO x.cg false (k :: ws) = none) :
    Calls Tryz.prog 36 #[.agg (ccs x), .bool false, .slice (some ⟨b, o, none⟩) n c] w (WiP x false (k :: ws) w) := by
  obtain ⟨a0, a1, a2, a3, ts, A, c1⟩ := x
  obtain rfl : ts = T ++ [y] := hts
  have h0 : 0 < n := by rw [← hn]; simp
  have h0i : (0 : Int) < (n : Int) := by omega
  have hq : ((bs k).toList == [116, 105, 109, 101, 115]) = false := by rw [is_times, k1]
  have hq2 : ((bs k).toList == [116, 101, 110, 97, 110, 116]) = false := by rw [is_tenant, k2]
  have hq3 : ((bs k).toList == [110, 101, 116]) = false := by rw [is_net, k3]
  have hq4 : ((bs k).toList == [116, 111, 107, 101, 110]) = false := by rw [is_token, k4]
  obtain ⟨m, hm⟩ : ∃ m, T.length = m := ⟨_, rfl⟩
  have hn1 : (T ++ [y]).length = m + 1 := by rw [List.length_append, hm]; rfl
  have hn9m : m + 1 ≤ 1099511627 := by rw [← hn1]; exact hn9'
  obtain ⟨bA, oA, rfl, hbA, hcA⟩ : ∃ g o', A = some ⟨g, o', none⟩ ∧ g < w.heap.size ∧ ∀ j, j < 5 → w.cell? ⟨g, o' + m * 5 + j, none⟩ = (tcs y)[j]? := by
    have hr : Rw 5 tcs w A (T ++ [y]) := h.r.r
    rcases hr with hr | ⟨g, o', e, hg, hc⟩
    · simp at hr
    · refine ⟨g, o', e, hg, fun j hj => ?_⟩
      have := hc m (by rw [List.length_append, hm]; simp) j hj
      rw [this]
      simp [← hm]
  have HN1 := Lib.hid hn1
  have HRC := Lib.hid h
  obtain ⟨B, hB⟩ : ∃ B, bs k = B := ⟨_, rfl⟩
  rw [hB] at hq hq2 hq3 hq4 hc0
  obtain ⟨⟨tn, ta, tb, tnl, tkl⟩, TA, tc, TK, tk⟩ := y
  obtain ⟨nk, hnk⟩ : ∃ k, tnl.length = k := ⟨_, rfl⟩
  obtain ⟨kk, hkk⟩ : ∃ k, tkl.length = k := ⟨_, rfl⟩
  have hcA0 := hcA 0 (by decide); have hcA1 := hcA 1 (by decide); have hcA2 := hcA 2 (by decide); have hcA3 := hcA 3 (by decide); have hcA4 := hcA 4 (by decide)
  simp only [tcs, hnk, hkk] at hcA3 hcA4
  dsimp only [tcs] at hcA0 hcA1 hcA2
  have hq9 : (m : Int) + 1 ≠ 0 := by omega
  have hwr : wrap64 (m : Int) = (m : Int) := by unfold wrap64; omega
  have hm1 : (m : Int) < (m : Int) + 1 := by omega
  have hm0 : (0 : Int) ≤ (m : Int) := Int.natCast_nonneg m
  clear hn hB hn9' hcA h hnk hkk hm k1 k2 k3 k4
  simp only [ccs, hn1]
  have HB0 := Lib.hid (show Bk ((w.alloc (.cells #[.int .i64 a0, .int .i64 a1, .int .i64 a2, .int .i64 a3, .slice (some ⟨bA, oA, none⟩) (m + 1) c1] 24)).alloc (.cells #[.int .i64 0, .int .i64 0, .int .i64 0, .int .i64 0, .slice none 0 0] 24)) w.heap.size 24 #[.int .i64 a0, .int .i64 a1, .int .i64 a2, .int .i64 a3, .slice (some ⟨bA, oA, none⟩) (m + 1) c1] from (Bk.new w _ _).alloc _)
  have HB1 := Lib.hid (show Bk ((w.alloc (.cells #[.int .i64 a0, .int .i64 a1, .int .i64 a2, .int .i64 a3, .slice (some ⟨bA, oA, none⟩) (m + 1) c1] 24)).alloc (.cells #[.int .i64 0, .int .i64 0, .int .i64 0, .int .i64 0, .slice none 0 0] 24)) (w.heap.size + 1) 24 #[.int .i64 0, .int .i64 0, .int .i64 0, .int .i64 0, .slice none 0 0] by have := Bk.new (w.alloc (.cells #[.int .i64 a0, .int .i64 a1, .int .i64 a2, .int .i64 a3, .slice (some ⟨bA, oA, none⟩) (m + 1) c1] 24)) 24 #[.int .i64 0, .int .i64 0, .int .i64 0, .int .i64 0, .slice none 0 0]; rwa [World.size_alloc] at this)
  have HLO := Lib.hid (show Below w.heap.size w ((w.alloc (.cells #[.int .i64 a0, .int .i64 a1, .int .i64 a2, .int .i64 a3, .slice (some ⟨bA, oA, none⟩) (m + 1) c1] 24)).alloc (.cells #[.int .i64 0, .int .i64 0, .int .i64 0, .int .i64 0, .slice none 0 0] 24)) from ((Below.refl w.heap.size w).alloc (Nat.le_refl _) _).alloc (by rw [World.size_alloc]; omega) _)
  have c0w : ((w.alloc (.cells #[.int .i64 a0, .int .i64 a1, .int .i64 a2, .int .i64 a3, .slice (some ⟨bA, oA, none⟩) (m + 1) c1] 24)).alloc (.cells #[.int .i64 0, .int .i64 0, .int .i64 0, .int .i64 0, .slice none 0 0] 24)).cell? ⟨b, o, none⟩ = some (.string B) := (HLO.out.cell (p := ⟨b, o, none⟩) hlt).trans hc0
  have e0w : ((w.alloc (.cells #[.int .i64 a0, .int .i64 a1, .int .i64 a2, .int .i64 a3, .slice (some ⟨bA, oA, none⟩) (m + 1) c1] 24)).alloc (.cells #[.int .i64 0, .int .i64 0, .int .i64 0, .int .i64 0, .slice none 0 0] 24)).cell? ⟨bA, oA + m * 5, none⟩ = _ := (HLO.out.cell (p := ⟨bA, oA + m * 5, none⟩) hbA).trans hcA0
  have e1w : ((w.alloc (.cells #[.int .i64 a0, .int .i64 a1, .int .i64 a2, .int .i64 a3, .slice (some ⟨bA, oA, none⟩) (m + 1) c1] 24)).alloc (.cells #[.int .i64 0, .int .i64 0, .int .i64 0, .int .i64 0, .slice none 0 0] 24)).cell? ⟨bA, oA + m * 5 + 1, none⟩ = _ := (HLO.out.cell (p := ⟨bA, oA + m * 5 + 1, none⟩) hbA).trans hcA1
  have e2w : ((w.alloc (.cells #[.int .i64 a0, .int .i64 a1, .int .i64 a2, .int .i64 a3, .slice (some ⟨bA, oA, none⟩) (m + 1) c1] 24)).alloc (.cells #[.int .i64 0, .int .i64 0, .int .i64 0, .int .i64 0, .slice none 0 0] 24)).cell? ⟨bA, oA + m * 5 + 2, none⟩ = _ := (HLO.out.cell (p := ⟨bA, oA + m * 5 + 2, none⟩) hbA).trans hcA2
  have e3w : ((w.alloc (.cells #[.int .i64 a0, .int .i64 a1, .int .i64 a2, .int .i64 a3, .slice (some ⟨bA, oA, none⟩) (m + 1) c1] 24)).alloc (.cells #[.int .i64 0, .int .i64 0, .int .i64 0, .int .i64 0, .slice none 0 0] 24)).cell? ⟨bA, oA + m * 5 + 3, none⟩ = _ := (HLO.out.cell (p := ⟨bA, oA + m * 5 + 3, none⟩) hbA).trans hcA3
  have e4w : ((w.alloc (.cells #[.int .i64 a0, .int .i64 a1, .int .i64 a2, .int .i64 a3, .slice (some ⟨bA, oA, none⟩) (m + 1) c1] 24)).alloc (.cells #[.int .i64 0, .int .i64 0, .int .i64 0, .int .i64 0, .slice none 0 0] 24)).cell? ⟨bA, oA + m * 5 + 4, none⟩ = _ := (HLO.out.cell (p := ⟨bA, oA + m * 5 + 4, none⟩) hbA).trans hcA4
  clear hn1
  have HNO := Lib.hid hno
  clear hno
  go_enter Tryz.func36, Tryz.ntmps36
  go_upto_region 1 with fail
  obtain ⟨v0, hv0⟩ : ∃ v, ((w.alloc (.cells #[.int .i64 a0, .int .i64 a1, .int .i64 a2, .int .i64 a3, .slice (some ⟨bA, oA, none⟩) (m + 1) c1] 24)).alloc (.cells #[.int .i64 0, .int .i64 0, .int .i64 0, .int .i64 0, .slice none 0 0] 24)) = v := ⟨_, rfl⟩
  rw [hv0] at HB0 HB1 HLO c0w e0w e1w e2w e3w e4w ⊢
  clear hv0
  have p0 : v0.cell? ⟨w.heap.size, 0, none⟩ = some (.int .i64 a0) := HB0.out.cell 0
  have g0 : v0.cell? ⟨w.heap.size + 1, 0, none⟩ = some (.int .i64 0) := HB1.out.cell 0
  have gf0 := HB1.out.frozen 0
  have p1 : v0.cell? ⟨w.heap.size, 1, none⟩ = some (.int .i64 a1) := HB0.out.cell 1
  have g1 : v0.cell? ⟨w.heap.size + 1, 1, none⟩ = some (.int .i64 0) := HB1.out.cell 1
  have gf1 := HB1.out.frozen 1
  have p2 : v0.cell? ⟨w.heap.size, 2, none⟩ = some (.int .i64 a2) := HB0.out.cell 2
  have g2 : v0.cell? ⟨w.heap.size + 1, 2, none⟩ = some (.int .i64 0) := HB1.out.cell 2
  have gf2 := HB1.out.frozen 2
  have p3 : v0.cell? ⟨w.heap.size, 3, none⟩ = some (.int .i64 a3) := HB0.out.cell 3
  have g3 : v0.cell? ⟨w.heap.size + 1, 3, none⟩ = some (.int .i64 0) := HB1.out.cell 3
  have gf3 := HB1.out.frozen 3
  have p4 : v0.cell? ⟨w.heap.size, 4, none⟩ = some (.slice (some ⟨bA, oA, none⟩) (m + 1) c1) := HB0.out.cell 4
  have g4 : v0.cell? ⟨w.heap.size + 1, 4, none⟩ = some (.slice none 0 0) := HB1.out.cell 4
  have gf4 := HB1.out.frozen 4
  try simp only [List.cons_append, List.nil_append]
  clear p0 p1 p2 p3 g0 g1 g2 g3 g4 gf0 gf1 gf2 gf3 gf4
  have HV0 := Lib.hid (show Bk (v0.alloc (.cells #[.string tn, .int .i64 ta, .int .i64 tb, .slice TA nk tc, .slice TK kk tk] 33)) w.heap.size 24 #[.int .i64 a0, .int .i64 a1, .int .i64 a2, .int .i64 a3, .slice (some ⟨bA, oA, none⟩) (m + 1) c1] from HB0.out.alloc _)
  have HV1 := Lib.hid (show Bk (v0.alloc (.cells #[.string tn, .int .i64 ta, .int .i64 tb, .slice TA nk tc, .slice TK kk tk] 33)) (w.heap.size + 1) 24 #[.int .i64 0, .int .i64 0, .int .i64 0, .int .i64 0, .slice none 0 0] from HB1.out.alloc _)
  have HVT := Lib.hid (show Bk (v0.alloc (.cells #[.string tn, .int .i64 ta, .int .i64 tb, .slice TA nk tc, .slice TK kk tk] 33)) v0.heap.size 33 #[.string tn, .int .i64 ta, .int .i64 tb, .slice TA nk tc, .slice TK kk tk] from Bk.new v0 _ _)
  have HVL := Lib.hid (show Below w.heap.size w (v0.alloc (.cells #[.string tn, .int .i64 ta, .int .i64 tb, .slice TA nk tc, .slice TK kk tk] 33)) from HLO.out.alloc HLO.out.size _)
  have HC0 := Lib.hid hc0
  go_upto_region 18 with fail
  try simp only [List.cons_append, List.nil_append]
  obtain ⟨v1, hv1⟩ : ∃ v, v0.alloc (.cells #[.string tn, .int .i64 ta, .int .i64 tb, .slice TA nk tc, .slice TK kk tk] 33) = v := ⟨_, rfl⟩
  obtain ⟨tb0, htb0⟩ : ∃ g, v0.heap.size = g := ⟨_, rfl⟩
  rw [hv1] at HV0 HV1 HVT HVL ⊢
  rw [htb0] at HVT ⊢
  clear hv1 htb0 HB0 HB1 HLO c0w e0w e1w e2w e3w e4w p4 hcA0 hcA1 hcA2 hcA3 hcA4
  have p0 : v1.cell? ⟨w.heap.size, 0, none⟩ = some (.int .i64 a0) := HV0.out.cell 0
  have g0 : v1.cell? ⟨w.heap.size + 1, 0, none⟩ = some (.int .i64 0) := HV1.out.cell 0
  have gf0 := HV1.out.frozen 0
  have p1 : v1.cell? ⟨w.heap.size, 1, none⟩ = some (.int .i64 a1) := HV0.out.cell 1
  have g1 : v1.cell? ⟨w.heap.size + 1, 1, none⟩ = some (.int .i64 0) := HV1.out.cell 1
  have gf1 := HV1.out.frozen 1
  have p2 : v1.cell? ⟨w.heap.size, 2, none⟩ = some (.int .i64 a2) := HV0.out.cell 2
  have g2 : v1.cell? ⟨w.heap.size + 1, 2, none⟩ = some (.int .i64 0) := HV1.out.cell 2
  have gf2 := HV1.out.frozen 2
  have p3 : v1.cell? ⟨w.heap.size, 3, none⟩ = some (.int .i64 a3) := HV0.out.cell 3
  have g3 : v1.cell? ⟨w.heap.size + 1, 3, none⟩ = some (.int .i64 0) := HV1.out.cell 3
  have gf3 := HV1.out.frozen 3
  have p4 : v1.cell? ⟨w.heap.size, 4, none⟩ = some (.slice (some ⟨bA, oA, none⟩) (m + 1) c1) := HV0.out.cell 4
  have g4 : v1.cell? ⟨w.heap.size + 1, 4, none⟩ = some (.slice none 0 0) := HV1.out.cell 4
  have gf4 := HV1.out.frozen 4
  have tk4 : v1.cell? ⟨tb0, 4, none⟩ = some (.slice TK kk tk) := HVT.out.cell 4
  have cw : v1.cell? ⟨b, o, none⟩ = some (.string B) := (HVL.out.cell (p := ⟨b, o, none⟩) hlt).trans hc0
  go_wp2
  have kU := (((((HV1.out.set 0 (.int .i64 a0)).set 1 (.int .i64 a1)).set 2 (.int .i64 a2)).set 3 (.int .i64 a3)).set 4 (.slice (some ⟨bA, oA, none⟩) (m + 1) c1))
  simp only [List.setIfInBounds_toArray, List.set_cons_zero, List.set_cons_succ] at kU
  refine bodyPost_ret (v := .tuple #[.agg #[.int .i64 a0, .int .i64 a1, .int .i64 a2, .int .i64 a3, .slice (some ⟨bA, oA, none⟩) (m + 1) c1], .bool false]) ?_ rfl ⟨?_, .inl ⟨⟨a0, a1, a2, a3, T ++ [(⟨⟨tn, ta, tb, tnl, tkl⟩, TA, tc, TK, tk⟩ : Tv)], some ⟨bA, oA, none⟩, c1⟩, by simp only [ccs, HN1.out], HNO.out⟩⟩
  · have k0 := kU.cell 0; have k1 := kU.cell 1; have k2 := kU.cell 2; have k3 := kU.cell 3; have k4 := kU.cell 4
    simp [results, Tryz.f36, go_sem, k0, k1, k2, k3, k4]
  · exact (((((HVL.out.setCell (p := ⟨w.heap.size + 1, 0, none⟩) (by show w.heap.size ≤ w.heap.size + 1; omega) _).setCell (p := ⟨w.heap.size + 1, 1, none⟩) (by show w.heap.size ≤ w.heap.size + 1; omega) _).setCell (p := ⟨w.heap.size + 1, 2, none⟩) (by show w.heap.size ≤ w.heap.size + 1; omega) _).setCell (p := ⟨w.heap.size + 1, 3, none⟩) (by show w.heap.size ≤ w.heap.size + 1; omega) _).setCell (p := ⟨w.heap.size + 1, 4, none⟩) (by show w.heap.size ≤ w.heap.size + 1; omega) _)
end Go.Proofs.YtekobdmlgbffnaaGreatDoor
