/- The document's own: with: the line of a tenant. (Written by gen_cz8.py.) -/
import Derived.Test.YtekobdmlgbffnaaGreatDoorG9
import Derived.Test.YtekobdmlgbffnaaGreatDoorG4
namespace Go.Proofs.YtekobdmlgbffnaaGreatDoor
set_option linter.unusedVariables false
set_option maxRecDepth 100000
set_option linter.unusedSimpArgs false
open Go.RowKit

theorem readW_ten (c : Cg) (l : List (List UInt8)) : readW c (wTenant :: l) = readTenant c l := by
  simp only [readW]
  rw [if_neg (by decide), if_pos trivial]
theorem nums2 {a b : List UInt8} {l : List Nat} (h : numsO [a, b] = some l) : ∃ i j, l = [i, j] ∧ decO a = some i ∧ decO b = some j := by
  simp only [numsO] at h
  cases ha : decO a <;> cases hb : decO b <;> simp [ha, hb] at h
  exact ⟨_, _, h.symm, rfl, rfl⟩
theorem nums2_no {n a b : List UInt8} (h : numsO [a, b] = none) (c : Cg) : readTenant c [n, a, b] = none := by
  simp only [numsO] at h
  unfold readTenant
  cases ha : decO a <;> cases hb : decO b <;> simp [ha, hb] at h ⊢
theorem nums2_yes {n a b : List UInt8} {i j : Nat} (ha : decO a = some i) (hb : decO b = some j) (c : Cg) : readTenant c [n, a, b] = some { c with tens := c.tens ++ [⟨bs n, i, j, [], []⟩] } := by
  unfold readTenant
  simp [ha, hb]
set_option maxRecDepth 100000 in
set_option maxHeartbeats 8000000 in
theorem rwith_tenant (x : Cv) (b o c : Nat) (nm y0 y1 : List UInt8) (w : World) (h : RC w x) (hn9 : x.ts.length + 1 ≤ 1099511627) (hc5 : 4 ≤ c) (hlt : b < w.heap.size)
    (hrow : ∀ j z, [wTenant, nm, y0, y1][j]? = some z → w.cell? ⟨b, o + j, none⟩ = some (.string (bs z)) ∧ z.length ≤ 140737488355328) :
    Calls Tryz.prog 36 #[.agg (ccs x), .bool false, .slice (some ⟨b, o, none⟩) 4 c] w (WiP x false [wTenant, nm, y0, y1] w) := by
  have HRC := Lib.hid h
  obtain ⟨a0, a1, a2, a3, ts, A, c1⟩ := x
  have hc0 : w.cell? ⟨b, o, none⟩ = some (.string (bs wTenant)) := (hrow 0 _ rfl).1
  have hc1 : w.cell? ⟨b, o + 1, none⟩ = some (.string (bs nm)) := (hrow 1 _ rfl).1
  have HNM := Lib.hid (hrow 1 _ rfl).2
  have hw := with_eq (Cv.cg ⟨a0, a1, a2, a3, ts, A, c1⟩) false wTenant [nm, y0, y1] rfl
  have hq : ((bs wTenant).toList == [116, 105, 109, 101, 115]) = false := is_times wTenant
  have hq2 : ((bs wTenant).toList == [116, 101, 110, 97, 110, 116]) = true := is_tenant wTenant
  have hcn : ¬ c = 2 := by omega
  have HRW := Lib.hid (fun j z (hj : [y0, y1][j]? = some z) => hrow (j + 2) z hj)
  clear hrow h
  obtain ⟨n1, hn1⟩ : ∃ m, ts.length = m := ⟨_, rfl⟩
  have HN1 := Lib.hid hn1
  have HN9 := Lib.hid (show n1 + 1 ≤ 1099511627 by rw [← hn1]; exact hn9)
  obtain ⟨B, hB⟩ : ∃ B, bs wTenant = B := ⟨_, rfl⟩
  rw [hB] at hq hq2 hc0
  obtain ⟨Bn, hBn⟩ : ∃ B, bs nm = B := ⟨_, rfl⟩
  have HBN := Lib.hid hBn
  rw [hBn] at hc1
  clear hB hn9 hBn
  simp only [ccs, hn1]
  have HB0 := Lib.hid (show Bk ((w.alloc (.cells #[.int .i64 a0, .int .i64 a1, .int .i64 a2, .int .i64 a3, .slice A n1 c1] 24)).alloc (.cells #[.int .i64 0, .int .i64 0, .int .i64 0, .int .i64 0, .slice none 0 0] 24)) w.heap.size 24 #[.int .i64 a0, .int .i64 a1, .int .i64 a2, .int .i64 a3, .slice A n1 c1] from (Bk.new w _ _).alloc _)
  have HB1 := Lib.hid (show Bk ((w.alloc (.cells #[.int .i64 a0, .int .i64 a1, .int .i64 a2, .int .i64 a3, .slice A n1 c1] 24)).alloc (.cells #[.int .i64 0, .int .i64 0, .int .i64 0, .int .i64 0, .slice none 0 0] 24)) (w.heap.size + 1) 24 #[.int .i64 0, .int .i64 0, .int .i64 0, .int .i64 0, .slice none 0 0] by have := Bk.new (w.alloc (.cells #[.int .i64 a0, .int .i64 a1, .int .i64 a2, .int .i64 a3, .slice A n1 c1] 24)) 24 #[.int .i64 0, .int .i64 0, .int .i64 0, .int .i64 0, .slice none 0 0]; rwa [World.size_alloc] at this)
  have HLO := Lib.hid (show Below w.heap.size w ((w.alloc (.cells #[.int .i64 a0, .int .i64 a1, .int .i64 a2, .int .i64 a3, .slice A n1 c1] 24)).alloc (.cells #[.int .i64 0, .int .i64 0, .int .i64 0, .int .i64 0, .slice none 0 0] 24)) from ((Below.refl w.heap.size w).alloc (Nat.le_refl _) _).alloc (by rw [World.size_alloc]; omega) _)
  have c0w : ((w.alloc (.cells #[.int .i64 a0, .int .i64 a1, .int .i64 a2, .int .i64 a3, .slice A n1 c1] 24)).alloc (.cells #[.int .i64 0, .int .i64 0, .int .i64 0, .int .i64 0, .slice none 0 0] 24)).cell? ⟨b, o, none⟩ = some (.string B) := (HLO.out.cell (p := ⟨b, o, none⟩) hlt).trans hc0
  have c1w : ((w.alloc (.cells #[.int .i64 a0, .int .i64 a1, .int .i64 a2, .int .i64 a3, .slice A n1 c1] 24)).alloc (.cells #[.int .i64 0, .int .i64 0, .int .i64 0, .int .i64 0, .slice none 0 0] 24)).cell? ⟨b, o + 1, none⟩ = some (.string Bn) := (HLO.out.cell (p := ⟨b, o + 1, none⟩) hlt).trans hc1
  clear hn1
  go_enter Tryz.func36, Tryz.ntmps36
  go_upto_region 1 with fail
  obtain ⟨v0, hv0⟩ : ∃ v, ((w.alloc (.cells #[.int .i64 a0, .int .i64 a1, .int .i64 a2, .int .i64 a3, .slice A n1 c1] 24)).alloc (.cells #[.int .i64 0, .int .i64 0, .int .i64 0, .int .i64 0, .slice none 0 0] 24)) = v := ⟨_, rfl⟩
  rw [hv0] at HB0 HB1 HLO c0w c1w ⊢
  clear hv0
  have p0 : v0.cell? ⟨w.heap.size, 0, none⟩ = some (.int .i64 a0) := HB0.out.cell 0
  have g0 : v0.cell? ⟨w.heap.size + 1, 0, none⟩ = some (.int .i64 0) := HB1.out.cell 0
  have gf0 := HB1.out.frozen 0
  have p1 : v0.cell? ⟨w.heap.size, 1, none⟩ = some (.int .i64 a1) := HB0.out.cell 1
  have g1 : v0.cell? ⟨w.heap.size + 1, 1, none⟩ = some (.int .i64 0) := HB1.out.cell 1
  have gf1 := HB1.out.frozen 1
  have p2 : v0.cell? ⟨w.heap.size, 2, none⟩ = some (.int .i64 a2) := HB0.out.cell 2
  have g2 : v0.cell? ⟨w.heap.size + 1, 2, none⟩ = some (.int .i64 0) := HB1.out.cell 2
  have gf2 := HB1.out.frozen 2
  have p3 : v0.cell? ⟨w.heap.size, 3, none⟩ = some (.int .i64 a3) := HB0.out.cell 3
  have g3 : v0.cell? ⟨w.heap.size + 1, 3, none⟩ = some (.int .i64 0) := HB1.out.cell 3
  have gf3 := HB1.out.frozen 3
  have p4 : v0.cell? ⟨w.heap.size, 4, none⟩ = some (.slice A n1 c1) := HB0.out.cell 4
  have g4 : v0.cell? ⟨w.heap.size + 1, 4, none⟩ = some (.slice none 0 0) := HB1.out.cell 4
  have gf4 := HB1.out.frozen 4
  try simp only [List.cons_append, List.nil_append]
  have HSZ := Lib.hid HLO.out.size
  have HNU := Lib.hid (rnumbers_ok b (o + 2) 2 (c - 2) [y0, y1] v0 rfl (by omega) (Nat.lt_of_lt_of_le hlt HSZ.out) (fun j z hj => ⟨by
    have := (HLO.out.cell (p := ⟨b, o + (j + 2), none⟩) hlt).trans (HRW.out j z hj).1
    rwa [show o + (j + 2) = o + 2 + j by omega] at this, (HRW.out j z hj).2⟩))
  cases hR : numsO [y0, y1] with
  | none =>
    rw [hR] at HNU
    have hno : withO (Cv.cg ⟨a0, a1, a2, a3, ts, A, c1⟩) false [wTenant, nm, y0, y1] = none := hw.trans (nums2_no hR _)
    go_wp2_with (go_at_call 75; (with_reducible refine HNU.out.mono ?_); rintro e u2 ⟨rfl, hb2⟩; have HB0' := Lib.hid (HB0.out.below hb2 HB0.out.lt); have HB1' := Lib.hid (HB1.out.below hb2 HB1.out.lt); have HL2 := Lib.hid (HLO.out.trans (hb2.mono HSZ.out)); clear hb2 p0 g0 gf0 p1 g1 gf1 p2 g2 gf2 p3 g3 gf3 p4 g4 gf4; have p0 : u2.cell? ⟨w.heap.size, 0, none⟩ = some (.int .i64 a0) := HB0'.out.cell 0; have g0 : u2.cell? ⟨w.heap.size + 1, 0, none⟩ = some (.int .i64 0) := HB1'.out.cell 0; have gf0 := HB1'.out.frozen 0; have p1 : u2.cell? ⟨w.heap.size, 1, none⟩ = some (.int .i64 a1) := HB0'.out.cell 1; have g1 : u2.cell? ⟨w.heap.size + 1, 1, none⟩ = some (.int .i64 0) := HB1'.out.cell 1; have gf1 := HB1'.out.frozen 1; have p2 : u2.cell? ⟨w.heap.size, 2, none⟩ = some (.int .i64 a2) := HB0'.out.cell 2; have g2 : u2.cell? ⟨w.heap.size + 1, 2, none⟩ = some (.int .i64 0) := HB1'.out.cell 2; have gf2 := HB1'.out.frozen 2; have p3 : u2.cell? ⟨w.heap.size, 3, none⟩ = some (.int .i64 a3) := HB0'.out.cell 3; have g3 : u2.cell? ⟨w.heap.size + 1, 3, none⟩ = some (.int .i64 0) := HB1'.out.cell 3; have gf3 := HB1'.out.frozen 3; have p4 : u2.cell? ⟨w.heap.size, 4, none⟩ = some (.slice A n1 c1) := HB0'.out.cell 4; have g4 : u2.cell? ⟨w.heap.size + 1, 4, none⟩ = some (.slice none 0 0) := HB1'.out.cell 4; have gf4 := HB1'.out.frozen 4)
    have kU := (((((HB1'.out.set 0 (.int .i64 a0)).set 1 (.int .i64 a1)).set 2 (.int .i64 a2)).set 3 (.int .i64 a3)).set 4 (.slice A n1 c1))
    simp only [List.setIfInBounds_toArray, List.set_cons_zero, List.set_cons_succ] at kU
    refine bodyPost_ret (v := .tuple #[.agg #[.int .i64 a0, .int .i64 a1, .int .i64 a2, .int .i64 a3, .slice A n1 c1], .bool false]) ?_ rfl ⟨?_, .inl ⟨⟨a0, a1, a2, a3, ts, A, c1⟩, by simp only [ccs, HN1.out], hno⟩⟩
    · have k0 := kU.cell 0; have k1 := kU.cell 1; have k2 := kU.cell 2; have k3 := kU.cell 3; have k4 := kU.cell 4
      simp [results, Tryz.f36, go_sem, k0, k1, k2, k3, k4]
    · exact (((((HL2.out.setCell (p := ⟨w.heap.size + 1, 0, none⟩) (by show w.heap.size ≤ w.heap.size + 1; omega) _).setCell (p := ⟨w.heap.size + 1, 1, none⟩) (by show w.heap.size ≤ w.heap.size + 1; omega) _).setCell (p := ⟨w.heap.size + 1, 2, none⟩) (by show w.heap.size ≤ w.heap.size + 1; omega) _).setCell (p := ⟨w.heap.size + 1, 3, none⟩) (by show w.heap.size ≤ w.heap.size + 1; omega) _).setCell (p := ⟨w.heap.size + 1, 4, none⟩) (by show w.heap.size ≤ w.heap.size + 1; omega) _)
  | some l =>
    obtain ⟨i0, i1, rfl, e0, e1⟩ := nums2 hR
    rw [hR] at HNU
    go_upto_region 13 with (first | (go_at_call 75; (with_reducible refine HNU.out.mono ?_); rintro e u2 ⟨⟨Aq, cq, rfl, ho2⟩, hb2⟩) | fail)
    clear p0 p1 p2 p3 p4 g0 g1 g2 g3 g4 gf0 gf1 gf2 gf3 gf4
    have HB0' := Lib.hid (HB0.out.below hb2 HB0.out.lt)
    have HB1' := Lib.hid (HB1.out.below hb2 HB1.out.lt)
    have HL2 := Lib.hid (HLO.out.trans (hb2.mono HSZ.out))
    have HSZ2 := Lib.hid HL2.out.size
    have HNMc := Lib.hid (show u2.cell? ⟨b, o + 1, none⟩ = some (.string Bn) from (HL2.out.cell (p := ⟨b, o + 1, none⟩) hlt).trans hc1)
    have HBL := Lib.hid (show b < u2.heap.size from Nat.lt_of_lt_of_le hlt HSZ2.out)
    obtain ⟨gA, oA, rfl, hgA, hcA⟩ : ∃ g o', Aq = some ⟨g, o', none⟩ ∧ g < u2.heap.size ∧ ∀ i, (h : i < [i0, i1].length) → ∀ j, j < 1 → u2.cell? ⟨g, o' + i * 1 + j, none⟩ = (ics ([i0, i1][i]))[j]? := by
      rcases Ow.rw_ (k := 1) (f := ics) (fun _ => rfl) ho2 with h | h
      · cases h
      · exact h
    obtain ⟨hA1, hA2, cs, hcs⟩ := ho2.block 0 gA rfl
    have HCS := Lib.hid hcs
    have z0 : cs[oA]? = some (.int .i64 (i0 : Int)) := (hcs.cell oA).symm.trans (hcA 0 (by simp) 0 (by simp))
    have z1 : cs[oA + 1]? = some (.int .i64 (i1 : Int)) := (hcs.cell (oA + 1)).symm.trans (hcA 1 (by simp) 0 (by simp))
    have HCA := Lib.hid (show cs[oA]? = some (.int .i64 (i0 : Int)) ∧ cs[oA + 1]? = some (.int .i64 (i1 : Int)) from ⟨z0, z1⟩)
    have hne : w.heap.size ≠ w.heap.size + 1 := by omega
    have hrd := HRC.out.r.r.on HL2.out
    have HUR := Lib.hid hrd
    have HNIL := Lib.hid (show A = none → n1 = 0 ∧ c1 = 0 by have := HRC.out.f.nil_; rwa [HN1.out] at this)
    clear hrd hcs z0 z1 hcA ho2 hb2
    have HN2 := Lib.hid (show (ts ++ [(⟨⟨Bn, i0, i1, [], []⟩, none, 0, none, 0⟩ : Tv)]).length = n1 + 1 by rw [List.length_append, HN1.out]; rfl)
    have HYES := Lib.hid (show withO (Cv.cg ⟨a0, a1, a2, a3, ts, A, c1⟩) false [wTenant, nm, y0, y1] = some (Cv.cg ⟨a0, a1, a2, a3, ts ++ [(⟨⟨Bn, i0, i1, [], []⟩, none, 0, none, 0⟩ : Tv)], none, 0⟩) by
      rw [hw]
      rw [readW_ten, nums2_yes e0 e1, HBN.out]
      simp [Cv.cg])
    have HRCN := Lib.hid (show ∀ A2 c2 u, Ow 33 5 tcs u u2.heap.size A2 c2 (ts ++ [(⟨⟨Bn, i0, i1, [], []⟩, none, 0, none, 0⟩ : Tv)]) → Below w.heap.size w u → RC u ⟨a0, a1, a2, a3, ts ++ [(⟨⟨Bn, i0, i1, [], []⟩, none, 0, none, 0⟩ : Tv)], A2, c2⟩ from fun A2 c2 u ho hb =>
      ⟨⟨Ow.rw_ (k := 5) (f := tcs) (fun _ => rfl) ho, fun q hq => by
        rcases List.mem_append.1 hq with hq | hq
        · exact (HRC.out.r.each q hq).on hb
        · obtain rfl := List.mem_singleton.1 hq
          exact ⟨.inl rfl, .inl rfl, ⟨Nat.le_refl _, Nat.zero_le _, fun _ => ⟨rfl, rfl⟩⟩, ⟨Nat.le_refl _, Nat.zero_le _, fun _ => ⟨rfl, rfl⟩⟩, (fun z hz => by cases hz), (by show Bn.size ≤ _; rw [← HBN.out, bs_size]; exact HNM.out), (fun z hz => by cases hz)⟩⟩, ho.fit⟩)
    clear hw hR
    try simp only [List.cons_append, List.nil_append]
    refine wp_region_L (S := fun u => Below u2.heap.size u2 u) 17 (by kernel_rfl) ((Below.refl _ _).drew) (fun hHeld => ?_)
    refine takeL (some 80) [2, 3, 15, 17] (i := 1) (v := ?_) rfl rfl (by kernel_rfl) (by kernel_rfl) (by kernel_rfl) (by kernel_rfl) (fun _ _ _ h => h) (Or.inl ⟨by kernel_rfl, ?_⟩) hHeld ?_
    rotate_left
    · intro wz hSw; have q4 : wz.cell? ⟨w.heap.size, 4, none⟩ = some (.slice A n1 c1) := (HB0'.out.below hSw HB0'.out.lt).cell 4; have qn : wz.cell? ⟨b, o + 1, none⟩ = some (.string Bn) := (hSw.cell (p := ⟨b, o + 1, none⟩) HBL.out).trans HNMc.out; have hT := HCS.out.below hSw HCS.out.lt; have qa : wz.cell? ⟨gA, oA, none⟩ = some (.int .i64 (i0 : Int)) := (hT.cell oA).trans HCA.out.1; have qb : wz.cell? ⟨gA, oA + 1, none⟩ = some (.int .i64 (i1 : Int)) := (hT.cell (oA + 1)).trans HCA.out.2; clear hT; go_simp; try (with_reducible rfl)
    try simp only [lay]
    refine takeL (some 81) [3, 15, 17] (i := 2) (v := ?_) rfl rfl (by kernel_rfl) (by kernel_rfl) (by kernel_rfl) (by kernel_rfl) (fun _ _ _ h => h) (Or.inl ⟨by kernel_rfl, ?_⟩) hHeld ?_
    rotate_left
    · intro wz hSw; have q4 : wz.cell? ⟨w.heap.size, 4, none⟩ = some (.slice A n1 c1) := (HB0'.out.below hSw HB0'.out.lt).cell 4; have qn : wz.cell? ⟨b, o + 1, none⟩ = some (.string Bn) := (hSw.cell (p := ⟨b, o + 1, none⟩) HBL.out).trans HNMc.out; have hT := HCS.out.below hSw HCS.out.lt; have qa : wz.cell? ⟨gA, oA, none⟩ = some (.int .i64 (i0 : Int)) := (hT.cell oA).trans HCA.out.1; have qb : wz.cell? ⟨gA, oA + 1, none⟩ = some (.int .i64 (i1 : Int)) := (hT.cell (oA + 1)).trans HCA.out.2; clear hT; go_simp; try (with_reducible rfl)
    try simp only [lay]
    refine takeL (some 83) [5, 6, 13, 14, 15, 17] (i := 4) (v := ?_) rfl rfl (by kernel_rfl) (by kernel_rfl) (by kernel_rfl) (by kernel_rfl) (fun _ _ _ h => h) (Or.inl ⟨by kernel_rfl, ?_⟩) hHeld ?_
    rotate_left
    · intro wz hSw; have q4 : wz.cell? ⟨w.heap.size, 4, none⟩ = some (.slice A n1 c1) := (HB0'.out.below hSw HB0'.out.lt).cell 4; have qn : wz.cell? ⟨b, o + 1, none⟩ = some (.string Bn) := (hSw.cell (p := ⟨b, o + 1, none⟩) HBL.out).trans HNMc.out; have hT := HCS.out.below hSw HCS.out.lt; have qa : wz.cell? ⟨gA, oA, none⟩ = some (.int .i64 (i0 : Int)) := (hT.cell oA).trans HCA.out.1; have qb : wz.cell? ⟨gA, oA + 1, none⟩ = some (.int .i64 (i1 : Int)) := (hT.cell (oA + 1)).trans HCA.out.2; clear hT; go_simp; try (with_reducible rfl)
    try simp only [lay]
    refine takeL (some 84) [6, 13, 14, 15, 17] (i := 5) (v := ?_) rfl rfl (by kernel_rfl) (by kernel_rfl) (by kernel_rfl) (by kernel_rfl) (fun _ _ _ h => h) (Or.inl ⟨by kernel_rfl, ?_⟩) hHeld ?_
    rotate_left
    · intro wz hSw; have q4 : wz.cell? ⟨w.heap.size, 4, none⟩ = some (.slice A n1 c1) := (HB0'.out.below hSw HB0'.out.lt).cell 4; have qn : wz.cell? ⟨b, o + 1, none⟩ = some (.string Bn) := (hSw.cell (p := ⟨b, o + 1, none⟩) HBL.out).trans HNMc.out; have hT := HCS.out.below hSw HCS.out.lt; have qa : wz.cell? ⟨gA, oA, none⟩ = some (.int .i64 (i0 : Int)) := (hT.cell oA).trans HCA.out.1; have qb : wz.cell? ⟨gA, oA + 1, none⟩ = some (.int .i64 (i1 : Int)) := (hT.cell (oA + 1)).trans HCA.out.2; clear hT; go_simp; try (with_reducible rfl)
    try simp only [lay]
    refine takeL (some 85) [13, 14, 15, 17] (i := 6) (v := ?_) rfl rfl (by kernel_rfl) (by kernel_rfl) (by kernel_rfl) (by kernel_rfl) (fun _ _ _ h => h) (Or.inl ⟨by kernel_rfl, ?_⟩) hHeld ?_
    rotate_left
    · intro wz hSw; have q4 : wz.cell? ⟨w.heap.size, 4, none⟩ = some (.slice A n1 c1) := (HB0'.out.below hSw HB0'.out.lt).cell 4; have qn : wz.cell? ⟨b, o + 1, none⟩ = some (.string Bn) := (hSw.cell (p := ⟨b, o + 1, none⟩) HBL.out).trans HNMc.out; have hT := HCS.out.below hSw HCS.out.lt; have qa : wz.cell? ⟨gA, oA, none⟩ = some (.int .i64 (i0 : Int)) := (hT.cell oA).trans HCA.out.1; have qb : wz.cell? ⟨gA, oA + 1, none⟩ = some (.int .i64 (i1 : Int)) := (hT.cell (oA + 1)).trans HCA.out.2; clear hT; go_simp; try (with_reducible rfl)
    try simp only [lay]
    refine takeL (some 86) [8, 9, 13, 14, 15, 17] (i := 7) (v := ?_) rfl rfl (by kernel_rfl) (by kernel_rfl) (by kernel_rfl) (by kernel_rfl) (fun _ _ _ h => h) (Or.inl ⟨by kernel_rfl, ?_⟩) hHeld ?_
    rotate_left
    · intro wz hSw; have q4 : wz.cell? ⟨w.heap.size, 4, none⟩ = some (.slice A n1 c1) := (HB0'.out.below hSw HB0'.out.lt).cell 4; have qn : wz.cell? ⟨b, o + 1, none⟩ = some (.string Bn) := (hSw.cell (p := ⟨b, o + 1, none⟩) HBL.out).trans HNMc.out; have hT := HCS.out.below hSw HCS.out.lt; have qa : wz.cell? ⟨gA, oA, none⟩ = some (.int .i64 (i0 : Int)) := (hT.cell oA).trans HCA.out.1; have qb : wz.cell? ⟨gA, oA + 1, none⟩ = some (.int .i64 (i1 : Int)) := (hT.cell (oA + 1)).trans HCA.out.2; clear hT; go_simp; try (with_reducible rfl)
    try simp only [lay]
    refine takeL (some 87) [9, 13, 14, 15, 17] (i := 8) (v := ?_) rfl rfl (by kernel_rfl) (by kernel_rfl) (by kernel_rfl) (by kernel_rfl) (fun _ _ _ h => h) (Or.inl ⟨by kernel_rfl, ?_⟩) hHeld ?_
    rotate_left
    · intro wz hSw; have q4 : wz.cell? ⟨w.heap.size, 4, none⟩ = some (.slice A n1 c1) := (HB0'.out.below hSw HB0'.out.lt).cell 4; have qn : wz.cell? ⟨b, o + 1, none⟩ = some (.string Bn) := (hSw.cell (p := ⟨b, o + 1, none⟩) HBL.out).trans HNMc.out; have hT := HCS.out.below hSw HCS.out.lt; have qa : wz.cell? ⟨gA, oA, none⟩ = some (.int .i64 (i0 : Int)) := (hT.cell oA).trans HCA.out.1; have qb : wz.cell? ⟨gA, oA + 1, none⟩ = some (.int .i64 (i1 : Int)) := (hT.cell (oA + 1)).trans HCA.out.2; clear hT; go_simp; try (with_reducible rfl)
    try simp only [lay]
    refine takeL (some 88) [13, 14, 15, 17] (i := 9) (v := ?_) rfl rfl (by kernel_rfl) (by kernel_rfl) (by kernel_rfl) (by kernel_rfl) (fun _ _ _ h => h) (Or.inl ⟨by kernel_rfl, ?_⟩) hHeld ?_
    rotate_left
    · intro wz hSw; have q4 : wz.cell? ⟨w.heap.size, 4, none⟩ = some (.slice A n1 c1) := (HB0'.out.below hSw HB0'.out.lt).cell 4; have qn : wz.cell? ⟨b, o + 1, none⟩ = some (.string Bn) := (hSw.cell (p := ⟨b, o + 1, none⟩) HBL.out).trans HNMc.out; have hT := HCS.out.below hSw HCS.out.lt; have qa : wz.cell? ⟨gA, oA, none⟩ = some (.int .i64 (i0 : Int)) := (hT.cell oA).trans HCA.out.1; have qb : wz.cell? ⟨gA, oA + 1, none⟩ = some (.int .i64 (i1 : Int)) := (hT.cell (oA + 1)).trans HCA.out.2; clear hT; go_simp; try (with_reducible rfl)
    try simp only [lay]
    refine takeL (some 89) [11, 12, 13, 14, 15, 17] (i := 10) (v := ?_) rfl rfl (by kernel_rfl) (by kernel_rfl) (by kernel_rfl) (by kernel_rfl) (fun _ _ _ h => h) (Or.inl ⟨by kernel_rfl, ?_⟩) hHeld ?_
    rotate_left
    · intro wz hSw; have q4 : wz.cell? ⟨w.heap.size, 4, none⟩ = some (.slice A n1 c1) := (HB0'.out.below hSw HB0'.out.lt).cell 4; have qn : wz.cell? ⟨b, o + 1, none⟩ = some (.string Bn) := (hSw.cell (p := ⟨b, o + 1, none⟩) HBL.out).trans HNMc.out; have hT := HCS.out.below hSw HCS.out.lt; have qa : wz.cell? ⟨gA, oA, none⟩ = some (.int .i64 (i0 : Int)) := (hT.cell oA).trans HCA.out.1; have qb : wz.cell? ⟨gA, oA + 1, none⟩ = some (.int .i64 (i1 : Int)) := (hT.cell (oA + 1)).trans HCA.out.2; clear hT; go_simp; try (with_reducible rfl)
    try simp only [lay]
    refine takeL (some 90) [12, 13, 14, 15, 17] (i := 11) (v := ?_) rfl rfl (by kernel_rfl) (by kernel_rfl) (by kernel_rfl) (by kernel_rfl) (fun _ _ _ h => h) (Or.inl ⟨by kernel_rfl, ?_⟩) hHeld ?_
    rotate_left
    · intro wz hSw; have q4 : wz.cell? ⟨w.heap.size, 4, none⟩ = some (.slice A n1 c1) := (HB0'.out.below hSw HB0'.out.lt).cell 4; have qn : wz.cell? ⟨b, o + 1, none⟩ = some (.string Bn) := (hSw.cell (p := ⟨b, o + 1, none⟩) HBL.out).trans HNMc.out; have hT := HCS.out.below hSw HCS.out.lt; have qa : wz.cell? ⟨gA, oA, none⟩ = some (.int .i64 (i0 : Int)) := (hT.cell oA).trans HCA.out.1; have qb : wz.cell? ⟨gA, oA + 1, none⟩ = some (.int .i64 (i1 : Int)) := (hT.cell (oA + 1)).trans HCA.out.2; clear hT; go_simp; try (with_reducible rfl)
    try simp only [lay]
    refine takeL (some 91) [13, 14, 15, 17] (i := 12) (v := ?_) rfl rfl (by kernel_rfl) (by kernel_rfl) (by kernel_rfl) (by kernel_rfl) (fun _ _ _ h => h) (Or.inl ⟨by kernel_rfl, ?_⟩) hHeld ?_
    rotate_left
    · intro wz hSw; have q4 : wz.cell? ⟨w.heap.size, 4, none⟩ = some (.slice A n1 c1) := (HB0'.out.below hSw HB0'.out.lt).cell 4; have qn : wz.cell? ⟨b, o + 1, none⟩ = some (.string Bn) := (hSw.cell (p := ⟨b, o + 1, none⟩) HBL.out).trans HNMc.out; have hT := HCS.out.below hSw HCS.out.lt; have qa : wz.cell? ⟨gA, oA, none⟩ = some (.int .i64 (i0 : Int)) := (hT.cell oA).trans HCA.out.1; have qb : wz.cell? ⟨gA, oA + 1, none⟩ = some (.int .i64 (i1 : Int)) := (hT.cell (oA + 1)).trans HCA.out.2; clear hT; go_simp; try (with_reducible rfl)
    try simp only [lay]
    refine takeL (some 92) [14, 15, 17] (i := 13) (v := ?_) rfl rfl (by kernel_rfl) (by kernel_rfl) (by kernel_rfl) (by kernel_rfl) (fun _ _ _ h => h) (Or.inl ⟨by kernel_rfl, ?_⟩) hHeld ?_
    rotate_left
    · intro wz hSw; have q4 : wz.cell? ⟨w.heap.size, 4, none⟩ = some (.slice A n1 c1) := (HB0'.out.below hSw HB0'.out.lt).cell 4; have qn : wz.cell? ⟨b, o + 1, none⟩ = some (.string Bn) := (hSw.cell (p := ⟨b, o + 1, none⟩) HBL.out).trans HNMc.out; have hT := HCS.out.below hSw HCS.out.lt; have qa : wz.cell? ⟨gA, oA, none⟩ = some (.int .i64 (i0 : Int)) := (hT.cell oA).trans HCA.out.1; have qb : wz.cell? ⟨gA, oA + 1, none⟩ = some (.int .i64 (i1 : Int)) := (hT.cell (oA + 1)).trans HCA.out.2; clear hT; go_simp; try (with_reducible rfl)
    try simp only [lay]
    refine wpAnyL_ready (rs := [0, 14]) (by kernel_rfl) (by simp) (AllReadyL.cons rfl (fun K hK => ?_) (AllReadyL.cons rfl (fun K hK => ?_) AllReadyL.nil))
    · rw [if_pos (by kernel_rfl)]
      go_simp
      refine hK.out _ _ ((Below.refl _ _).drew.alloc (Nat.le_refl _) _) (fun hHeld => ?_)
      try simp only [lay]
      refine gen_anyL (fun u => Below u2.heap.size u2 u ∧ Ow 33 5 tcs u u2.heap.size (some ⟨u2.heap.size, 0, none⟩) 0 ([] : List Tv)) ⟨hHeld, Ow.empty u2.drew u2.heap.size (Nat.le_refl _)⟩ (fun x1 hx1 => ?_)
      clear hHeld
      refine wpAnyL_ready (rs := [3, 14]) (by kernel_rfl) (by simp) (AllReadyL.cons rfl (fun K hK => ?_) (AllReadyL.cons rfl (fun K hK => ?_) AllReadyL.nil))
      · rw [if_pos (by kernel_rfl)]
        refine op_rows roT (.tmp 79) (.tmp 81) rfl 0 rfl rfl hx1.2 ts _ n1 c1 rfl HN1.out HNIL.out (HUR.out.on hx1.1) (by have := HN9.out; omega) hx1.1.size n1 (Nat.zero_add _) ?_
        intro A1 c3 x2 hox2 hgx2 hbx2
        rw [List.nil_append] at hox2
        refine hK.out _ _ (hx1.1.trans hbx2) (fun hHeld => ?_)
        try simp only [lay]
        refine wpAnyL_ready (rs := [14]) (by kernel_rfl) (by simp) (AllReadyL.cons rfl (fun K hK => ?_) AllReadyL.nil)
        rw [if_pos (by kernel_rfl)]
        go_simp
        refine hK.out _ _ ((hx1.1.trans hbx2).alloc ((hx1.1.trans hbx2).size) _) (fun hHeld => ?_)
        try simp only [lay]
        refine gen_anyL (fun u => Below u2.heap.size u2 u ∧ Bk u x2.heap.size 33 (tcs (⟨⟨Bn, i0, i1, [], []⟩, none, 0, none, 0⟩ : Tv)) ∧ Ow 33 5 tcs u u2.heap.size A1 c3 ts) ⟨hHeld, Bk.new x2 _ _, hox2.on ((Below.refl _ _).alloc (Nat.le_refl _) _)⟩ (fun x3 hx3 => ?_)
        clear hHeld
        refine wpAnyL_ready (rs := [15]) (by kernel_rfl) (by simp) (AllReadyL.cons rfl (fun K hK => ?_) AllReadyL.nil)
        rw [if_pos (by kernel_rfl)]
        refine op_rows roT (.tmp 82) (.tmp 93) rfl n1 rfl HN1.out hx3.2.2 [(⟨⟨Bn, i0, i1, [], []⟩, none, 0, none, 0⟩ : Tv)] (some ⟨x2.heap.size, 0, none⟩) 1 1 rfl rfl (fun h => by cases h) (Rw.bk hx3.2.1) (by have := HN9.out; omega) hx3.1.size (n1 + 1) rfl ?_
        intro A2 c2 x4 ho4 hg4 hb4
        have hbl4 := hx3.1.trans hb4
        have hgd4 := HB0'.out.below hbl4 HB0'.out.lt
        have d4 : x4.cell? ⟨w.heap.size, 4, none⟩ = some (.slice A n1 c1) := hgd4.cell 4
        have f4 := hgd4.frozen 4
        refine hK.out _ _ hbl4 (fun hHeld => ?_)
        try simp only [lay]
        refine takeL (some 95) [17] (i := 16) (v := ?_) rfl rfl (by kernel_rfl) (by kernel_rfl) (by kernel_rfl) (by kernel_rfl) (fun _ _ _ h => h) (Or.inl ⟨by kernel_rfl, ?_⟩) hHeld ?_
        rotate_left
        · intro wz hSw; go_simp; try (with_reducible rfl)
        try simp only [lay]
        refine wpAnyL_ready (rs := [17]) (by kernel_rfl) (by simp) (AllReadyL.last rfl (fun K hK => ?_))
        rw [if_pos (by kernel_rfl)]
        go_simp
        refine hK.out _ _ ?_
        try simp only [lay]
        refine wpAnyL_done (by kernel_rfl) ?_ _
        refine gen_qL (fun u => Bk u w.heap.size 24 #[.int .i64 a0, .int .i64 a1, .int .i64 a2, .int .i64 a3, .slice A2 (n1 + 1) c2] ∧ Bk u (w.heap.size + 1) 24 #[.int .i64 0, .int .i64 0, .int .i64 0, .int .i64 0, .slice none 0 0] ∧ Ow 33 5 tcs u u2.heap.size A2 c2 (ts ++ [(⟨⟨Bn, i0, i1, [], []⟩, none, 0, none, 0⟩ : Tv)]) ∧ Below w.heap.size w u) ⟨?_, ?_, ?_, ?_⟩ (fun y5 hy5 => ?_)
        · have := hgd4.set 4 (.slice A2 (n1 + 1) c2)
          simpa only [List.setIfInBounds_toArray, List.set_cons_zero, List.set_cons_succ] using this
        · exact (HB1'.out.below hbl4 HB1'.out.lt).far (by show w.heap.size + 1 ≠ w.heap.size; omega) _
        · exact ho4.set (p := ⟨w.heap.size, 4, none⟩) HB0'.out.lt _
        · exact (HL2.out.trans (hbl4.mono HSZ2.out)).setCell (p := ⟨w.heap.size, 4, none⟩) (Nat.le_refl _) _
        clear hHeld hbl4 hgd4 ho4 hg4 hb4 d4 f4
        obtain ⟨yd, yz, yo, yl⟩ := hy5
        have y0 : y5.cell? ⟨w.heap.size, 0, none⟩ = some (.int .i64 a0) := yd.cell 0
        have y1 : y5.cell? ⟨w.heap.size, 1, none⟩ = some (.int .i64 a1) := yd.cell 1
        have y2 : y5.cell? ⟨w.heap.size, 2, none⟩ = some (.int .i64 a2) := yd.cell 2
        have y3 : y5.cell? ⟨w.heap.size, 3, none⟩ = some (.int .i64 a3) := yd.cell 3
        have y4 : y5.cell? ⟨w.heap.size, 4, none⟩ = some (.slice A2 (n1 + 1) c2) := yd.cell 4
        have g0 : y5.cell? ⟨w.heap.size + 1, 0, none⟩ = some (.int .i64 0) := yz.cell 0
        have gf0 := yz.frozen 0
        have g1 : y5.cell? ⟨w.heap.size + 1, 1, none⟩ = some (.int .i64 0) := yz.cell 1
        have gf1 := yz.frozen 1
        have g2 : y5.cell? ⟨w.heap.size + 1, 2, none⟩ = some (.int .i64 0) := yz.cell 2
        have gf2 := yz.frozen 2
        have g3 : y5.cell? ⟨w.heap.size + 1, 3, none⟩ = some (.int .i64 0) := yz.cell 3
        have gf3 := yz.frozen 3
        have g4 : y5.cell? ⟨w.heap.size + 1, 4, none⟩ = some (.slice none 0 0) := yz.cell 4
        have gf4 := yz.frozen 4
        have hlow := yl
        have hown := yo
        go_wp2
        have kU := (((((yz.set 0 (.int .i64 a0)).set 1 (.int .i64 a1)).set 2 (.int .i64 a2)).set 3 (.int .i64 a3)).set 4 (.slice A2 (n1 + 1) c2))
        simp only [List.setIfInBounds_toArray, List.set_cons_zero, List.set_cons_succ] at kU
        have hlow2 := (((((hlow.setCell (p := ⟨w.heap.size + 1, 0, none⟩) (by show w.heap.size ≤ w.heap.size + 1; omega) (.int .i64 a0)).setCell (p := ⟨w.heap.size + 1, 1, none⟩) (by show w.heap.size ≤ w.heap.size + 1; omega) (.int .i64 a1)).setCell (p := ⟨w.heap.size + 1, 2, none⟩) (by show w.heap.size ≤ w.heap.size + 1; omega) (.int .i64 a2)).setCell (p := ⟨w.heap.size + 1, 3, none⟩) (by show w.heap.size ≤ w.heap.size + 1; omega) (.int .i64 a3)).setCell (p := ⟨w.heap.size + 1, 4, none⟩) (by show w.heap.size ≤ w.heap.size + 1; omega) (.slice A2 (n1 + 1) c2))
        have hown2 := (((((hown.set (p := ⟨w.heap.size + 1, 0, none⟩) HB1'.out.lt (.int .i64 a0)).set (p := ⟨w.heap.size + 1, 1, none⟩) HB1'.out.lt (.int .i64 a1)).set (p := ⟨w.heap.size + 1, 2, none⟩) HB1'.out.lt (.int .i64 a2)).set (p := ⟨w.heap.size + 1, 3, none⟩) HB1'.out.lt (.int .i64 a3)).set (p := ⟨w.heap.size + 1, 4, none⟩) HB1'.out.lt (.slice A2 (n1 + 1) c2))
        refine bodyPost_ret (v := .tuple #[.agg #[.int .i64 a0, .int .i64 a1, .int .i64 a2, .int .i64 a3, .slice A2 (n1 + 1) c2], .bool true]) ?_ rfl ⟨hlow2, .inr ⟨⟨a0, a1, a2, a3, ts ++ [(⟨⟨Bn, i0, i1, [], []⟩, none, 0, none, 0⟩ : Tv)], A2, c2⟩, by simp only [ccs, HN2.out], HRCN.out _ _ _ hown2 hlow2, HYES.out⟩⟩
        · have p0 := kU.cell 0; have p1 := kU.cell 1; have p2 := kU.cell 2; have p3 := kU.cell 3; have p4 := kU.cell 4
          simp [results, Tryz.f36, go_sem, p0, p1, p2, p3, p4]
      · rw [if_pos (by kernel_rfl)]
        go_simp
        refine hK.out _ _ (hx1.1.alloc (hx1.1.size) _) (fun hHeld => ?_)
        try simp only [lay]
        refine gen_anyL (fun u => Below u2.heap.size u2 u ∧ Bk u x1.heap.size 33 (tcs (⟨⟨Bn, i0, i1, [], []⟩, none, 0, none, 0⟩ : Tv)) ∧ Ow 33 5 tcs u u2.heap.size (some ⟨u2.heap.size, 0, none⟩) 0 ([] : List Tv)) ⟨hHeld, Bk.new x1 _ _, hx1.2.on ((Below.refl _ _).alloc (Nat.le_refl _) _)⟩ (fun x2 hx2 => ?_)
        clear hHeld
        have hlt1 : u2.heap.size < x1.heap.size := (hx1.2.block 0 _ rfl).2.1
        refine wpAnyL_ready (rs := [3]) (by kernel_rfl) (by simp) (AllReadyL.cons rfl (fun K hK => ?_) AllReadyL.nil)
        rw [if_pos (by kernel_rfl)]
        refine op_rows roT (.tmp 79) (.tmp 81) rfl 0 rfl rfl hx2.2.2 ts _ n1 c1 rfl HN1.out HNIL.out (HUR.out.on hx2.1) (by have := HN9.out; omega) hx2.1.size n1 (Nat.zero_add _) ?_
        intro A1 c3 x3 hox3 hgx3 hbx3
        rw [List.nil_append] at hox3
        refine hK.out _ _ (hx2.1.trans hbx3) (fun hHeld => ?_)
        try simp only [lay]
        refine wpAnyL_ready (rs := [15]) (by kernel_rfl) (by simp) (AllReadyL.cons rfl (fun K hK => ?_) AllReadyL.nil)
        rw [if_pos (by kernel_rfl)]
        refine op_rows roT (.tmp 82) (.tmp 93) rfl n1 rfl HN1.out hox3 [(⟨⟨Bn, i0, i1, [], []⟩, none, 0, none, 0⟩ : Tv)] (some ⟨x1.heap.size, 0, none⟩) 1 1 rfl rfl (fun h => by cases h) (Rw.bk ((hgx3.block x1.heap.size hx2.2.1.lt (fun e => by injection e with e; dsimp only at e; omega)).trans hx2.2.1)) (by have := HN9.out; omega) (hx2.1.trans hbx3).size (n1 + 1) rfl ?_
        intro A2 c2 x4 ho4 hg4 hb4
        have hbl4 := (hx2.1.trans hbx3).trans hb4
        have hgd4 := HB0'.out.below hbl4 HB0'.out.lt
        have d4 : x4.cell? ⟨w.heap.size, 4, none⟩ = some (.slice A n1 c1) := hgd4.cell 4
        have f4 := hgd4.frozen 4
        refine hK.out _ _ hbl4 (fun hHeld => ?_)
        try simp only [lay]
        refine takeL (some 95) [17] (i := 16) (v := ?_) rfl rfl (by kernel_rfl) (by kernel_rfl) (by kernel_rfl) (by kernel_rfl) (fun _ _ _ h => h) (Or.inl ⟨by kernel_rfl, ?_⟩) hHeld ?_
        rotate_left
        · intro wz hSw; go_simp; try (with_reducible rfl)
        try simp only [lay]
        refine wpAnyL_ready (rs := [17]) (by kernel_rfl) (by simp) (AllReadyL.last rfl (fun K hK => ?_))
        rw [if_pos (by kernel_rfl)]
        go_simp
        refine hK.out _ _ ?_
        try simp only [lay]
        refine wpAnyL_done (by kernel_rfl) ?_ _
        refine gen_qL (fun u => Bk u w.heap.size 24 #[.int .i64 a0, .int .i64 a1, .int .i64 a2, .int .i64 a3, .slice A2 (n1 + 1) c2] ∧ Bk u (w.heap.size + 1) 24 #[.int .i64 0, .int .i64 0, .int .i64 0, .int .i64 0, .slice none 0 0] ∧ Ow 33 5 tcs u u2.heap.size A2 c2 (ts ++ [(⟨⟨Bn, i0, i1, [], []⟩, none, 0, none, 0⟩ : Tv)]) ∧ Below w.heap.size w u) ⟨?_, ?_, ?_, ?_⟩ (fun y5 hy5 => ?_)
        · have := hgd4.set 4 (.slice A2 (n1 + 1) c2)
          simpa only [List.setIfInBounds_toArray, List.set_cons_zero, List.set_cons_succ] using this
        · exact (HB1'.out.below hbl4 HB1'.out.lt).far (by show w.heap.size + 1 ≠ w.heap.size; omega) _
        · exact ho4.set (p := ⟨w.heap.size, 4, none⟩) HB0'.out.lt _
        · exact (HL2.out.trans (hbl4.mono HSZ2.out)).setCell (p := ⟨w.heap.size, 4, none⟩) (Nat.le_refl _) _
        clear hHeld hbl4 hgd4 ho4 hg4 hb4 d4 f4
        obtain ⟨yd, yz, yo, yl⟩ := hy5
        have y0 : y5.cell? ⟨w.heap.size, 0, none⟩ = some (.int .i64 a0) := yd.cell 0
        have y1 : y5.cell? ⟨w.heap.size, 1, none⟩ = some (.int .i64 a1) := yd.cell 1
        have y2 : y5.cell? ⟨w.heap.size, 2, none⟩ = some (.int .i64 a2) := yd.cell 2
        have y3 : y5.cell? ⟨w.heap.size, 3, none⟩ = some (.int .i64 a3) := yd.cell 3
        have y4 : y5.cell? ⟨w.heap.size, 4, none⟩ = some (.slice A2 (n1 + 1) c2) := yd.cell 4
        have g0 : y5.cell? ⟨w.heap.size + 1, 0, none⟩ = some (.int .i64 0) := yz.cell 0
        have gf0 := yz.frozen 0
        have g1 : y5.cell? ⟨w.heap.size + 1, 1, none⟩ = some (.int .i64 0) := yz.cell 1
        have gf1 := yz.frozen 1
        have g2 : y5.cell? ⟨w.heap.size + 1, 2, none⟩ = some (.int .i64 0) := yz.cell 2
        have gf2 := yz.frozen 2
        have g3 : y5.cell? ⟨w.heap.size + 1, 3, none⟩ = some (.int .i64 0) := yz.cell 3
        have gf3 := yz.frozen 3
        have g4 : y5.cell? ⟨w.heap.size + 1, 4, none⟩ = some (.slice none 0 0) := yz.cell 4
        have gf4 := yz.frozen 4
        have hlow := yl
        have hown := yo
        go_wp2
        have kU := (((((yz.set 0 (.int .i64 a0)).set 1 (.int .i64 a1)).set 2 (.int .i64 a2)).set 3 (.int .i64 a3)).set 4 (.slice A2 (n1 + 1) c2))
        simp only [List.setIfInBounds_toArray, List.set_cons_zero, List.set_cons_succ] at kU
        have hlow2 := (((((hlow.setCell (p := ⟨w.heap.size + 1, 0, none⟩) (by show w.heap.size ≤ w.heap.size + 1; omega) (.int .i64 a0)).setCell (p := ⟨w.heap.size + 1, 1, none⟩) (by show w.heap.size ≤ w.heap.size + 1; omega) (.int .i64 a1)).setCell (p := ⟨w.heap.size + 1, 2, none⟩) (by show w.heap.size ≤ w.heap.size + 1; omega) (.int .i64 a2)).setCell (p := ⟨w.heap.size + 1, 3, none⟩) (by show w.heap.size ≤ w.heap.size + 1; omega) (.int .i64 a3)).setCell (p := ⟨w.heap.size + 1, 4, none⟩) (by show w.heap.size ≤ w.heap.size + 1; omega) (.slice A2 (n1 + 1) c2))
        have hown2 := (((((hown.set (p := ⟨w.heap.size + 1, 0, none⟩) HB1'.out.lt (.int .i64 a0)).set (p := ⟨w.heap.size + 1, 1, none⟩) HB1'.out.lt (.int .i64 a1)).set (p := ⟨w.heap.size + 1, 2, none⟩) HB1'.out.lt (.int .i64 a2)).set (p := ⟨w.heap.size + 1, 3, none⟩) HB1'.out.lt (.int .i64 a3)).set (p := ⟨w.heap.size + 1, 4, none⟩) HB1'.out.lt (.slice A2 (n1 + 1) c2))
        refine bodyPost_ret (v := .tuple #[.agg #[.int .i64 a0, .int .i64 a1, .int .i64 a2, .int .i64 a3, .slice A2 (n1 + 1) c2], .bool true]) ?_ rfl ⟨hlow2, .inr ⟨⟨a0, a1, a2, a3, ts ++ [(⟨⟨Bn, i0, i1, [], []⟩, none, 0, none, 0⟩ : Tv)], A2, c2⟩, by simp only [ccs, HN2.out], HRCN.out _ _ _ hown2 hlow2, HYES.out⟩⟩
        · have p0 := kU.cell 0; have p1 := kU.cell 1; have p2 := kU.cell 2; have p3 := kU.cell 3; have p4 := kU.cell 4
          simp [results, Tryz.f36, go_sem, p0, p1, p2, p3, p4]
    · rw [if_pos (by kernel_rfl)]
      go_simp
      refine hK.out _ _ ((Below.refl _ _).drew.alloc (Nat.le_refl _) _) (fun hHeld => ?_)
      try simp only [lay]
      refine gen_anyL (fun u => Below u2.heap.size u2 u ∧ Bk u u2.heap.size 33 (tcs (⟨⟨Bn, i0, i1, [], []⟩, none, 0, none, 0⟩ : Tv))) ⟨hHeld, Bk.new u2.drew _ _⟩ (fun x1 hx1 => ?_)
      clear hHeld
      refine wpAnyL_ready (rs := [0]) (by kernel_rfl) (by simp) (AllReadyL.cons rfl (fun K hK => ?_) AllReadyL.nil)
      rw [if_pos (by kernel_rfl)]
      go_simp
      refine hK.out _ _ (hx1.1.alloc (hx1.1.size) _) (fun hHeld => ?_)
      try simp only [lay]
      refine gen_anyL (fun u => Below u2.heap.size u2 u ∧ Ow 33 5 tcs u u2.heap.size (some ⟨x1.heap.size, 0, none⟩) 0 ([] : List Tv) ∧ Bk u u2.heap.size 33 (tcs (⟨⟨Bn, i0, i1, [], []⟩, none, 0, none, 0⟩ : Tv))) ⟨hHeld, Ow.empty x1 u2.heap.size (hx1.1.size), hx1.2.alloc _⟩ (fun x2 hx2 => ?_)
      clear hHeld
      have hlt1 : u2.heap.size < x1.heap.size := hx1.2.lt
      refine wpAnyL_ready (rs := [3]) (by kernel_rfl) (by simp) (AllReadyL.cons rfl (fun K hK => ?_) AllReadyL.nil)
      rw [if_pos (by kernel_rfl)]
      refine op_rows roT (.tmp 79) (.tmp 81) rfl 0 rfl rfl hx2.2.1 ts _ n1 c1 rfl HN1.out HNIL.out (HUR.out.on hx2.1) (by have := HN9.out; omega) hx2.1.size n1 (Nat.zero_add _) ?_
      intro A1 c3 x3 hox3 hgx3 hbx3
      rw [List.nil_append] at hox3
      refine hK.out _ _ (hx2.1.trans hbx3) (fun hHeld => ?_)
      try simp only [lay]
      refine wpAnyL_ready (rs := [15]) (by kernel_rfl) (by simp) (AllReadyL.cons rfl (fun K hK => ?_) AllReadyL.nil)
      rw [if_pos (by kernel_rfl)]
      refine op_rows roT (.tmp 82) (.tmp 93) rfl n1 rfl HN1.out hox3 [(⟨⟨Bn, i0, i1, [], []⟩, none, 0, none, 0⟩ : Tv)] (some ⟨u2.heap.size, 0, none⟩) 1 1 rfl rfl (fun h => by cases h) (Rw.bk ((hgx3.block u2.heap.size hx2.2.2.lt (fun e => by injection e with e; dsimp only at e; omega)).trans hx2.2.2)) (by have := HN9.out; omega) (hx2.1.trans hbx3).size (n1 + 1) rfl ?_
      intro A2 c2 x4 ho4 hg4 hb4
      have hbl4 := (hx2.1.trans hbx3).trans hb4
      have hgd4 := HB0'.out.below hbl4 HB0'.out.lt
      have d4 : x4.cell? ⟨w.heap.size, 4, none⟩ = some (.slice A n1 c1) := hgd4.cell 4
      have f4 := hgd4.frozen 4
      refine hK.out _ _ hbl4 (fun hHeld => ?_)
      try simp only [lay]
      refine takeL (some 95) [17] (i := 16) (v := ?_) rfl rfl (by kernel_rfl) (by kernel_rfl) (by kernel_rfl) (by kernel_rfl) (fun _ _ _ h => h) (Or.inl ⟨by kernel_rfl, ?_⟩) hHeld ?_
      rotate_left
      · intro wz hSw; go_simp; try (with_reducible rfl)
      try simp only [lay]
      refine wpAnyL_ready (rs := [17]) (by kernel_rfl) (by simp) (AllReadyL.last rfl (fun K hK => ?_))
      rw [if_pos (by kernel_rfl)]
      go_simp
      refine hK.out _ _ ?_
      try simp only [lay]
      refine wpAnyL_done (by kernel_rfl) ?_ _
      refine gen_qL (fun u => Bk u w.heap.size 24 #[.int .i64 a0, .int .i64 a1, .int .i64 a2, .int .i64 a3, .slice A2 (n1 + 1) c2] ∧ Bk u (w.heap.size + 1) 24 #[.int .i64 0, .int .i64 0, .int .i64 0, .int .i64 0, .slice none 0 0] ∧ Ow 33 5 tcs u u2.heap.size A2 c2 (ts ++ [(⟨⟨Bn, i0, i1, [], []⟩, none, 0, none, 0⟩ : Tv)]) ∧ Below w.heap.size w u) ⟨?_, ?_, ?_, ?_⟩ (fun y5 hy5 => ?_)
      · have := hgd4.set 4 (.slice A2 (n1 + 1) c2)
        simpa only [List.setIfInBounds_toArray, List.set_cons_zero, List.set_cons_succ] using this
      · exact (HB1'.out.below hbl4 HB1'.out.lt).far (by show w.heap.size + 1 ≠ w.heap.size; omega) _
      · exact ho4.set (p := ⟨w.heap.size, 4, none⟩) HB0'.out.lt _
      · exact (HL2.out.trans (hbl4.mono HSZ2.out)).setCell (p := ⟨w.heap.size, 4, none⟩) (Nat.le_refl _) _
      clear hHeld hbl4 hgd4 ho4 hg4 hb4 d4 f4
      obtain ⟨yd, yz, yo, yl⟩ := hy5
      have y0 : y5.cell? ⟨w.heap.size, 0, none⟩ = some (.int .i64 a0) := yd.cell 0
      have y1 : y5.cell? ⟨w.heap.size, 1, none⟩ = some (.int .i64 a1) := yd.cell 1
      have y2 : y5.cell? ⟨w.heap.size, 2, none⟩ = some (.int .i64 a2) := yd.cell 2
      have y3 : y5.cell? ⟨w.heap.size, 3, none⟩ = some (.int .i64 a3) := yd.cell 3
      have y4 : y5.cell? ⟨w.heap.size, 4, none⟩ = some (.slice A2 (n1 + 1) c2) := yd.cell 4
      have g0 : y5.cell? ⟨w.heap.size + 1, 0, none⟩ = some (.int .i64 0) := yz.cell 0
      have gf0 := yz.frozen 0
      have g1 : y5.cell? ⟨w.heap.size + 1, 1, none⟩ = some (.int .i64 0) := yz.cell 1
      have gf1 := yz.frozen 1
      have g2 : y5.cell? ⟨w.heap.size + 1, 2, none⟩ = some (.int .i64 0) := yz.cell 2
      have gf2 := yz.frozen 2
      have g3 : y5.cell? ⟨w.heap.size + 1, 3, none⟩ = some (.int .i64 0) := yz.cell 3
      have gf3 := yz.frozen 3
      have g4 : y5.cell? ⟨w.heap.size + 1, 4, none⟩ = some (.slice none 0 0) := yz.cell 4
      have gf4 := yz.frozen 4
      have hlow := yl
      have hown := yo
      go_wp2
      have kU := (((((yz.set 0 (.int .i64 a0)).set 1 (.int .i64 a1)).set 2 (.int .i64 a2)).set 3 (.int .i64 a3)).set 4 (.slice A2 (n1 + 1) c2))
      simp only [List.setIfInBounds_toArray, List.set_cons_zero, List.set_cons_succ] at kU
      have hlow2 := (((((hlow.setCell (p := ⟨w.heap.size + 1, 0, none⟩) (by show w.heap.size ≤ w.heap.size + 1; omega) (.int .i64 a0)).setCell (p := ⟨w.heap.size + 1, 1, none⟩) (by show w.heap.size ≤ w.heap.size + 1; omega) (.int .i64 a1)).setCell (p := ⟨w.heap.size + 1, 2, none⟩) (by show w.heap.size ≤ w.heap.size + 1; omega) (.int .i64 a2)).setCell (p := ⟨w.heap.size + 1, 3, none⟩) (by show w.heap.size ≤ w.heap.size + 1; omega) (.int .i64 a3)).setCell (p := ⟨w.heap.size + 1, 4, none⟩) (by show w.heap.size ≤ w.heap.size + 1; omega) (.slice A2 (n1 + 1) c2))
      have hown2 := (((((hown.set (p := ⟨w.heap.size + 1, 0, none⟩) HB1'.out.lt (.int .i64 a0)).set (p := ⟨w.heap.size + 1, 1, none⟩) HB1'.out.lt (.int .i64 a1)).set (p := ⟨w.heap.size + 1, 2, none⟩) HB1'.out.lt (.int .i64 a2)).set (p := ⟨w.heap.size + 1, 3, none⟩) HB1'.out.lt (.int .i64 a3)).set (p := ⟨w.heap.size + 1, 4, none⟩) HB1'.out.lt (.slice A2 (n1 + 1) c2))
      refine bodyPost_ret (v := .tuple #[.agg #[.int .i64 a0, .int .i64 a1, .int .i64 a2, .int .i64 a3, .slice A2 (n1 + 1) c2], .bool true]) ?_ rfl ⟨hlow2, .inr ⟨⟨a0, a1, a2, a3, ts ++ [(⟨⟨Bn, i0, i1, [], []⟩, none, 0, none, 0⟩ : Tv)], A2, c2⟩, by simp only [ccs, HN2.out], HRCN.out _ _ _ hown2 hlow2, HYES.out⟩⟩
      · have p0 := kU.cell 0; have p1 := kU.cell 1; have p2 := kU.cell 2; have p3 := kU.cell 3; have p4 := kU.cell 4
        simp [results, Tryz.f36, go_sem, p0, p1, p2, p3, p4]
end Go.Proofs.YtekobdmlgbffnaaGreatDoor
