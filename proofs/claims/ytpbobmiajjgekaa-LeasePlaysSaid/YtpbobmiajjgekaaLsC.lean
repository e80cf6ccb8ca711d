/- The document's own book of leases: Claim: its contract. (Written by gen_lsc.py.) -/
import Derived.Test.YtpbobmiajjgekaaLsQ
import Derived.Test.YtpbobmiajjgekaaSRef2
import Derived.BigRegion
namespace Go.Proofs.Ytpbobmiajjgekaa
set_option linter.unusedVariables false
set_option maxRecDepth 100000
set_option linter.unusedSimpArgs false
open Go.RowKit

theorem Lr.next {u : World} {bb B : Nat} {g most : Int} {l : List Ls} {nx : Int} (h : Lr u bb B g most ⟨l, nx⟩) (n : Int) : Lr (u.setCell ⟨bb, 3, none⟩ (.int .i64 n)) bb B g most ⟨l, n⟩ := by
  obtain ⟨⟨A, c, h1, h2⟩, h3, h4⟩ := h
  exact ⟨⟨A, c, by simpa only [bkc, List.setIfInBounds_toArray, List.set_cons_zero, List.set_cons_succ] using h1.set 3 (.int .i64 n), h2.set (p := ⟨bb, 3, none⟩) h3 _⟩, h3, by simpa [World.setCell] using h4⟩
set_option maxRecDepth 100000 in
set_option maxHeartbeats 8000000 in
theorem lrclaim_q (u : World) (bb B : Nat) (g most : Int) (b : Bo) (ten s : ByteArray) (conn now ttl : Int) (h : Lr u bb B g most b) (hl : b.l.length ≤ 1000000) (hup : UpL b.l) (hg : 0 ≤ g) (hg2 : g ≤ 1073741824) (hm : 0 ≤ most) (hm2 : most ≤ 1073741824) (ht : ten.size ≤ 140737488355328) (hs : s.size ≤ 140737488355328) (htl : ∀ y ∈ b.l, 0 ≤ y.till ∧ y.till ≤ 1125899906842624) (hnx : 0 ≤ b.nx) (hnx2 : b.nx ≤ 1000000) :
    Calls Try.prog 26 #[.pointer (some ⟨bb, 0, none⟩), .string ten, .string s, .int .i64 conn, .int .i64 now, .int .i64 ttl] u fun e u' => e = .returned (.tuple #[.agg (lsc (claimL g most b ten s conn now ttl).1), .int .i64 (claimL g most b ten s conn now ttl).2.1]) ∧ Lq u u' bb B g most (claimL g most b ten s conn now ttl).2.2 ∧ Ke [bb] u u' := by
  obtain ⟨u1, hu1⟩ : ∃ u1, u.alloc (.cells #[.string ⟨#[]⟩, .string ⟨#[]⟩, .int .i64 0, .int .i64 0, .int .i64 0, .bool false] 32) = u1 := ⟨_, rfl⟩
  have HB := Lib.hid (show Below u.heap.size u u1 by rw [← hu1]; exact (Below.refl _ _).alloc (Nat.le_refl _) _)
  have HZ := Lib.hid (show Bk u1 u.heap.size 32 #[.string ⟨#[]⟩, .string ⟨#[]⟩, .int .i64 0, .int .i64 0, .int .i64 0, .bool false] by rw [← hu1]; exact Bk.new _ _ _)
  have HF := Lib.hid (lrfind_ok u1 bb B g most b s (h.on HB.out) (by omega))
  have HN1 := Lib.hid (fun w => rname_ok ten w ht)
  have HN2 := Lib.hid (fun w => rname_ok s w hs)
  have HC := Lib.hid (fun w => lrclock_ok now w)
  have HT := Lib.hid (fun w => lrtime_ok ttl w)
  have HL := Lib.hid h
  have HBL := Lib.hid (And.intro hl hup)
  have HTL := Lib.hid htl
  have HG := Lib.hid (And.intro hg hg2)
  clear h hl hup htl
  obtain ⟨R, hR⟩ : ∃ R, claimL g most b ten s conn now ttl = R := ⟨_, rfl⟩
  have hr := hR
  simp only [hR]
  unfold claimL at hr
  dsimp only at hr
  clear hR
  obtain ⟨tn, htn⟩ : ∃ v, nameB ten = v := ⟨_, rfl⟩
  obtain ⟨sn, hsn⟩ : ∃ v, nameB s = v := ⟨_, rfl⟩
  obtain ⟨ck, hck⟩ : ∃ v, clkB now = v := ⟨_, rfl⟩
  obtain ⟨tk, htk⟩ : ∃ v, timB ttl = v := ⟨_, rfl⟩
  simp only [htn] at HN1
  simp only [hsn] at HN2
  simp only [hck] at HC
  simp only [htk] at HT
  simp only [htn, hsn, hck, htk] at hr
  clear htn hsn
  have arm : True := trivial
  obtain ⟨gz, hgz⟩ : ∃ gz, u.heap.size = gz := ⟨_, rfl⟩
  have HGZ := Lib.hid hgz
  cases tn with
  | false =>
    have HS := Lib.hid (show R = (zeroLs, 1, b) by rw [← hr, if_pos (by simp)])
    clear hr hck htk hg hg2 hm hm2 hnx hnx2 ht hs
    go_enter Try.func26, Try.ntmps26
    go_upto_region 1 with fail
    try rw [hu1]
    try rw [hgz]
    rw [hgz] at HZ
    clear hu1 hgz
    have z0 : u1.cell? ⟨gz, 0, none⟩ = some (.string ⟨#[]⟩) := HZ.out.cell 0
    have z1 : u1.cell? ⟨gz, 1, none⟩ = some (.string ⟨#[]⟩) := HZ.out.cell 1
    have z2 : u1.cell? ⟨gz, 2, none⟩ = some (.int .i64 0) := HZ.out.cell 2
    have z3 : u1.cell? ⟨gz, 3, none⟩ = some (.int .i64 0) := HZ.out.cell 3
    have z4 : u1.cell? ⟨gz, 4, none⟩ = some (.int .i64 0) := HZ.out.cell 4
    have z5 : u1.cell? ⟨gz, 5, none⟩ = some (.bool false) := HZ.out.cell 5
    have f0 := HZ.out.frozen 0
    have f1 := HZ.out.frozen 1
    have f2 := HZ.out.frozen 2
    have f3 := HZ.out.frozen 3
    have f4 := HZ.out.frozen 4
    have f5 := HZ.out.frozen 5
    go_wp2_with (first | (go_at_call 31; (with_reducible refine (HN1.out _).mono ?_); rintro e u5 ⟨rfl, hu⟩; rw [← hu]; clear hu) | (go_at_call 31; (with_reducible refine (HN2.out _).mono ?_); rintro e u5 ⟨rfl, hu⟩; rw [← hu]; clear hu) | (go_at_call 41; (with_reducible refine (HC.out _).mono ?_); rintro e u5 ⟨rfl, hu⟩; rw [hu]; clear hu) | (go_at_call 34; (with_reducible refine (HT.out _).mono ?_); rintro e u5 ⟨rfl, hu⟩; rw [hu]; clear hu))
    have HU : Bk ((((((u1.setCell ⟨gz, 0, none⟩ (.string ⟨#[]⟩)).setCell ⟨gz, 1, none⟩ (.string ⟨#[]⟩)).setCell ⟨gz, 2, none⟩ (.int .i64 0)).setCell ⟨gz, 3, none⟩ (.int .i64 0)).setCell ⟨gz, 4, none⟩ (.int .i64 0)).setCell ⟨gz, 5, none⟩ (.bool false)) gz 32 #[.string ⟨#[]⟩, .string ⟨#[]⟩, .int .i64 0, .int .i64 0, .int .i64 0, .bool false] := HZ.out.set6 _ _ _ _ _ _
    have p0 := HU.cell 0; have p1 := HU.cell 1; have p2 := HU.cell 2; have p3 := HU.cell 3; have p4 := HU.cell 4; have p5 := HU.cell 5
    refine bodyPost_ret (v := .tuple #[.agg #[.string ⟨#[]⟩, .string ⟨#[]⟩, .int .i64 0, .int .i64 0, .int .i64 0, .bool false], .int .i64 (1)]) ?_ rfl ⟨by rw [HS.out]; try rfl, by rw [HS.out]; exact HL.out.same (below_set6 HB.out (by rw [HGZ.out]; exact Nat.le_refl _) _ _ _ _ _ _), Ke.nil (Ke.of (below_set6 HB.out (by rw [HGZ.out]; exact Nat.le_refl _) _ _ _ _ _ _))⟩
    try simp [results, Try.f26, go_sem, p0, p1, p2, p3, p4, p5]
  | true =>
  cases sn with
  | false =>
    have HS := Lib.hid (show R = (zeroLs, 1, b) by rw [← hr, if_pos (by simp)])
    clear hr hck htk hg hg2 hm hm2 hnx hnx2 ht hs
    go_enter Try.func26, Try.ntmps26
    go_upto_region 1 with fail
    try rw [hu1]
    try rw [hgz]
    rw [hgz] at HZ
    clear hu1 hgz
    have z0 : u1.cell? ⟨gz, 0, none⟩ = some (.string ⟨#[]⟩) := HZ.out.cell 0
    have z1 : u1.cell? ⟨gz, 1, none⟩ = some (.string ⟨#[]⟩) := HZ.out.cell 1
    have z2 : u1.cell? ⟨gz, 2, none⟩ = some (.int .i64 0) := HZ.out.cell 2
    have z3 : u1.cell? ⟨gz, 3, none⟩ = some (.int .i64 0) := HZ.out.cell 3
    have z4 : u1.cell? ⟨gz, 4, none⟩ = some (.int .i64 0) := HZ.out.cell 4
    have z5 : u1.cell? ⟨gz, 5, none⟩ = some (.bool false) := HZ.out.cell 5
    have f0 := HZ.out.frozen 0
    have f1 := HZ.out.frozen 1
    have f2 := HZ.out.frozen 2
    have f3 := HZ.out.frozen 3
    have f4 := HZ.out.frozen 4
    have f5 := HZ.out.frozen 5
    go_wp2_with (first | (go_at_call 31; (with_reducible refine (HN1.out _).mono ?_); rintro e u5 ⟨rfl, hu⟩; rw [← hu]; clear hu) | (go_at_call 31; (with_reducible refine (HN2.out _).mono ?_); rintro e u5 ⟨rfl, hu⟩; rw [← hu]; clear hu) | (go_at_call 41; (with_reducible refine (HC.out _).mono ?_); rintro e u5 ⟨rfl, hu⟩; rw [hu]; clear hu) | (go_at_call 34; (with_reducible refine (HT.out _).mono ?_); rintro e u5 ⟨rfl, hu⟩; rw [hu]; clear hu))
    have HU : Bk ((((((u1.setCell ⟨gz, 0, none⟩ (.string ⟨#[]⟩)).setCell ⟨gz, 1, none⟩ (.string ⟨#[]⟩)).setCell ⟨gz, 2, none⟩ (.int .i64 0)).setCell ⟨gz, 3, none⟩ (.int .i64 0)).setCell ⟨gz, 4, none⟩ (.int .i64 0)).setCell ⟨gz, 5, none⟩ (.bool false)) gz 32 #[.string ⟨#[]⟩, .string ⟨#[]⟩, .int .i64 0, .int .i64 0, .int .i64 0, .bool false] := HZ.out.set6 _ _ _ _ _ _
    have p0 := HU.cell 0; have p1 := HU.cell 1; have p2 := HU.cell 2; have p3 := HU.cell 3; have p4 := HU.cell 4; have p5 := HU.cell 5
    refine bodyPost_ret (v := .tuple #[.agg #[.string ⟨#[]⟩, .string ⟨#[]⟩, .int .i64 0, .int .i64 0, .int .i64 0, .bool false], .int .i64 (1)]) ?_ rfl ⟨by rw [HS.out]; try rfl, by rw [HS.out]; exact HL.out.same (below_set6 HB.out (by rw [HGZ.out]; exact Nat.le_refl _) _ _ _ _ _ _), Ke.nil (Ke.of (below_set6 HB.out (by rw [HGZ.out]; exact Nat.le_refl _) _ _ _ _ _ _))⟩
    try simp [results, Try.f26, go_sem, p0, p1, p2, p3, p4, p5]
  | true =>
  cases ck with
  | false =>
    have HS := Lib.hid (show R = (zeroLs, 1, b) by rw [← hr, if_pos (by simp)])
    clear hr hck htk hg hg2 hm hm2 hnx hnx2 ht hs
    go_enter Try.func26, Try.ntmps26
    go_upto_region 1 with fail
    try rw [hu1]
    try rw [hgz]
    rw [hgz] at HZ
    clear hu1 hgz
    have z0 : u1.cell? ⟨gz, 0, none⟩ = some (.string ⟨#[]⟩) := HZ.out.cell 0
    have z1 : u1.cell? ⟨gz, 1, none⟩ = some (.string ⟨#[]⟩) := HZ.out.cell 1
    have z2 : u1.cell? ⟨gz, 2, none⟩ = some (.int .i64 0) := HZ.out.cell 2
    have z3 : u1.cell? ⟨gz, 3, none⟩ = some (.int .i64 0) := HZ.out.cell 3
    have z4 : u1.cell? ⟨gz, 4, none⟩ = some (.int .i64 0) := HZ.out.cell 4
    have z5 : u1.cell? ⟨gz, 5, none⟩ = some (.bool false) := HZ.out.cell 5
    have f0 := HZ.out.frozen 0
    have f1 := HZ.out.frozen 1
    have f2 := HZ.out.frozen 2
    have f3 := HZ.out.frozen 3
    have f4 := HZ.out.frozen 4
    have f5 := HZ.out.frozen 5
    go_wp2_with (first | (go_at_call 31; (with_reducible refine (HN1.out _).mono ?_); rintro e u5 ⟨rfl, hu⟩; rw [← hu]; clear hu) | (go_at_call 31; (with_reducible refine (HN2.out _).mono ?_); rintro e u5 ⟨rfl, hu⟩; rw [← hu]; clear hu) | (go_at_call 41; (with_reducible refine (HC.out _).mono ?_); rintro e u5 ⟨rfl, hu⟩; rw [hu]; clear hu) | (go_at_call 34; (with_reducible refine (HT.out _).mono ?_); rintro e u5 ⟨rfl, hu⟩; rw [hu]; clear hu))
    have HU : Bk ((((((u1.setCell ⟨gz, 0, none⟩ (.string ⟨#[]⟩)).setCell ⟨gz, 1, none⟩ (.string ⟨#[]⟩)).setCell ⟨gz, 2, none⟩ (.int .i64 0)).setCell ⟨gz, 3, none⟩ (.int .i64 0)).setCell ⟨gz, 4, none⟩ (.int .i64 0)).setCell ⟨gz, 5, none⟩ (.bool false)) gz 32 #[.string ⟨#[]⟩, .string ⟨#[]⟩, .int .i64 0, .int .i64 0, .int .i64 0, .bool false] := HZ.out.set6 _ _ _ _ _ _
    have p0 := HU.cell 0; have p1 := HU.cell 1; have p2 := HU.cell 2; have p3 := HU.cell 3; have p4 := HU.cell 4; have p5 := HU.cell 5
    refine bodyPost_ret (v := .tuple #[.agg #[.string ⟨#[]⟩, .string ⟨#[]⟩, .int .i64 0, .int .i64 0, .int .i64 0, .bool false], .int .i64 (1)]) ?_ rfl ⟨by rw [HS.out]; try rfl, by rw [HS.out]; exact HL.out.same (below_set6 HB.out (by rw [HGZ.out]; exact Nat.le_refl _) _ _ _ _ _ _), Ke.nil (Ke.of (below_set6 HB.out (by rw [HGZ.out]; exact Nat.le_refl _) _ _ _ _ _ _))⟩
    try simp [results, Try.f26, go_sem, p0, p1, p2, p3, p4, p5]
  | true =>
  cases tk with
  | false =>
    have HS := Lib.hid (show R = (zeroLs, 1, b) by rw [← hr, if_pos (by simp)])
    clear hr hck htk hg hg2 hm hm2 hnx hnx2 ht hs
    go_enter Try.func26, Try.ntmps26
    go_upto_region 1 with fail
    try rw [hu1]
    try rw [hgz]
    rw [hgz] at HZ
    clear hu1 hgz
    have z0 : u1.cell? ⟨gz, 0, none⟩ = some (.string ⟨#[]⟩) := HZ.out.cell 0
    have z1 : u1.cell? ⟨gz, 1, none⟩ = some (.string ⟨#[]⟩) := HZ.out.cell 1
    have z2 : u1.cell? ⟨gz, 2, none⟩ = some (.int .i64 0) := HZ.out.cell 2
    have z3 : u1.cell? ⟨gz, 3, none⟩ = some (.int .i64 0) := HZ.out.cell 3
    have z4 : u1.cell? ⟨gz, 4, none⟩ = some (.int .i64 0) := HZ.out.cell 4
    have z5 : u1.cell? ⟨gz, 5, none⟩ = some (.bool false) := HZ.out.cell 5
    have f0 := HZ.out.frozen 0
    have f1 := HZ.out.frozen 1
    have f2 := HZ.out.frozen 2
    have f3 := HZ.out.frozen 3
    have f4 := HZ.out.frozen 4
    have f5 := HZ.out.frozen 5
    go_wp2_with (first | (go_at_call 31; (with_reducible refine (HN1.out _).mono ?_); rintro e u5 ⟨rfl, hu⟩; rw [← hu]; clear hu) | (go_at_call 31; (with_reducible refine (HN2.out _).mono ?_); rintro e u5 ⟨rfl, hu⟩; rw [← hu]; clear hu) | (go_at_call 41; (with_reducible refine (HC.out _).mono ?_); rintro e u5 ⟨rfl, hu⟩; rw [hu]; clear hu) | (go_at_call 34; (with_reducible refine (HT.out _).mono ?_); rintro e u5 ⟨rfl, hu⟩; rw [hu]; clear hu))
    have HU : Bk ((((((u1.setCell ⟨gz, 0, none⟩ (.string ⟨#[]⟩)).setCell ⟨gz, 1, none⟩ (.string ⟨#[]⟩)).setCell ⟨gz, 2, none⟩ (.int .i64 0)).setCell ⟨gz, 3, none⟩ (.int .i64 0)).setCell ⟨gz, 4, none⟩ (.int .i64 0)).setCell ⟨gz, 5, none⟩ (.bool false)) gz 32 #[.string ⟨#[]⟩, .string ⟨#[]⟩, .int .i64 0, .int .i64 0, .int .i64 0, .bool false] := HZ.out.set6 _ _ _ _ _ _
    have p0 := HU.cell 0; have p1 := HU.cell 1; have p2 := HU.cell 2; have p3 := HU.cell 3; have p4 := HU.cell 4; have p5 := HU.cell 5
    refine bodyPost_ret (v := .tuple #[.agg #[.string ⟨#[]⟩, .string ⟨#[]⟩, .int .i64 0, .int .i64 0, .int .i64 0, .bool false], .int .i64 (1)]) ?_ rfl ⟨by rw [HS.out]; try rfl, by rw [HS.out]; exact HL.out.same (below_set6 HB.out (by rw [HGZ.out]; exact Nat.le_refl _) _ _ _ _ _ _), Ke.nil (Ke.of (below_set6 HB.out (by rw [HGZ.out]; exact Nat.le_refl _) _ _ _ _ _ _))⟩
    try simp [results, Try.f26, go_sem, p0, p1, p2, p3, p4, p5]
  | true =>
  rw [if_neg (by simp)] at hr
  unfold clkB at hck
  unfold timB at htk
  simp only [Bool.and_eq_true, decide_eq_true_eq] at hck htk
  obtain ⟨hn1, hn2⟩ := hck
  obtain ⟨ht1, ht2⟩ := htk
  obtain ⟨M, rfl⟩ := Int.eq_ofNat_of_zero_le hm
  obtain ⟨N, rfl⟩ := Int.eq_ofNat_of_zero_le hn1
  obtain ⟨D, rfl⟩ := Int.eq_ofNat_of_zero_le (show 0 ≤ ttl by omega)
  obtain ⟨X, hX⟩ := Int.eq_ofNat_of_zero_le hnx
  obtain ⟨Q, hQ⟩ : ∃ Q : Nat, min (D : Int) (M : Int) = (Q : Int) := ⟨min D M, by omega⟩
  obtain ⟨S, hS⟩ : ∃ S : Nat, (N : Int) + (Q : Int) = (S : Int) := ⟨N + Q, by omega⟩
  obtain ⟨hw, hw3⟩ := iwrap ((N : Int) + (Q : Int)) S hS (by omega)
  have hnw := (iwrap ((X : Int) + 1) (X + 1) (by omega) (by omega)).1
  have HX0 := Lib.hid hX
  rw [hX, hQ, hS] at hr
  clear hn1 hn2 ht1 ht2 hm hm2 hS hg hg2 hnx hnx2 ht hs hX
  obtain ⟨n, hn⟩ : ∃ n, b.l.length = n := ⟨_, rfl⟩
  have HN := Lib.hid hn
  cases hf : fnL s b.l with
  | none =>
    have HF0 := Lib.hid (show Calls Try.prog 53 #[.pointer (some ⟨bb, 0, none⟩), .string s] u1 fun e u' => e = .returned (.int .i64 (-1)) ∧ Below u1.heap.size u1 u' from HF.out.mono fun e u' hh => by
      obtain ⟨⟨i, x, _, _, _, h4⟩ | ⟨h5, _⟩, hb⟩ := hh
      · rw [hf] at h4; cases h4
      · exact ⟨h5, hb⟩)
    rw [hf] at hr
    dsimp only at hr
    clear hf HF
    obtain ⟨A, c, hAc⟩ : ∃ A c, Bk u bb 46 (bkc A n c g (M : Int) b.nx) := by
      obtain ⟨⟨A, c, h1, _⟩, _, _⟩ := HL.out
      exact ⟨A, c, by rw [← hn]; exact h1⟩
    have HAC := Lib.hid hAc
    by_cases h64 : 64 ≤ n
    · have h641 : (n : Int) ≥ 64 := by omega
      have h642 : decide ((64 : Int) ≤ (n : Int)) = true := decide_eq_true (by omega)
      have HS := Lib.hid (show R = (zeroLs, 2, b) by rw [← hr, hn, if_pos h64])
      clear hr hn hAc hw hw3 hnw hQ
      go_enter Try.func26, Try.ntmps26
      go_upto_region 1 with fail
      try rw [hu1]
      try rw [hgz]
      rw [hgz] at HZ
      clear hu1 hgz
      go_upto_region 4 with (first | (go_at_call 31; (with_reducible refine (HN1.out _).mono ?_); rintro e u5 ⟨rfl, hu⟩; rw [← hu]; clear hu) | (go_at_call 31; (with_reducible refine (HN2.out _).mono ?_); rintro e u5 ⟨rfl, hu⟩; rw [← hu]; clear hu) | (go_at_call 41; (with_reducible refine (HC.out _).mono ?_); rintro e u5 ⟨rfl, hu⟩; rw [hu]; clear hu) | (go_at_call 34; (with_reducible refine (HT.out _).mono ?_); rintro e u5 ⟨rfl, hu⟩; rw [hu]; clear hu) | (go_at_call 53; (with_reducible refine HF0.out.mono ?_); rintro e u2 ⟨rfl, hb⟩; have HB2 := Lib.hid (HB.out.trans (hb.mono HB.out.size)); have HZ2 := Lib.hid (HZ.out.below hb HZ.out.lt); clear hb))
      have e0 : u2.cell? ⟨bb, 0, none⟩ = some (.slice A n c) := (HAC.out.below HB2.out HAC.out.lt).cell 0
      have z0 : u2.cell? ⟨gz, 0, none⟩ = some (.string ⟨#[]⟩) := HZ2.out.cell 0
      have z1 : u2.cell? ⟨gz, 1, none⟩ = some (.string ⟨#[]⟩) := HZ2.out.cell 1
      have z2 : u2.cell? ⟨gz, 2, none⟩ = some (.int .i64 0) := HZ2.out.cell 2
      have z3 : u2.cell? ⟨gz, 3, none⟩ = some (.int .i64 0) := HZ2.out.cell 3
      have z4 : u2.cell? ⟨gz, 4, none⟩ = some (.int .i64 0) := HZ2.out.cell 4
      have z5 : u2.cell? ⟨gz, 5, none⟩ = some (.bool false) := HZ2.out.cell 5
      have f0 := HZ2.out.frozen 0
      have f1 := HZ2.out.frozen 1
      have f2 := HZ2.out.frozen 2
      have f3 := HZ2.out.frozen 3
      have f4 := HZ2.out.frozen 4
      have f5 := HZ2.out.frozen 5
      go_wp2
      have HU : Bk ((((((u2.setCell ⟨gz, 0, none⟩ (.string ⟨#[]⟩)).setCell ⟨gz, 1, none⟩ (.string ⟨#[]⟩)).setCell ⟨gz, 2, none⟩ (.int .i64 0)).setCell ⟨gz, 3, none⟩ (.int .i64 0)).setCell ⟨gz, 4, none⟩ (.int .i64 0)).setCell ⟨gz, 5, none⟩ (.bool false)) gz 32 #[.string ⟨#[]⟩, .string ⟨#[]⟩, .int .i64 0, .int .i64 0, .int .i64 0, .bool false] := HZ2.out.set6 _ _ _ _ _ _
      have p0 := HU.cell 0; have p1 := HU.cell 1; have p2 := HU.cell 2; have p3 := HU.cell 3; have p4 := HU.cell 4; have p5 := HU.cell 5
      refine bodyPost_ret (v := .tuple #[.agg #[.string ⟨#[]⟩, .string ⟨#[]⟩, .int .i64 0, .int .i64 0, .int .i64 0, .bool false], .int .i64 (2)]) ?_ rfl ⟨by rw [HS.out]; try rfl, by rw [HS.out]; exact HL.out.same (below_set6 HB2.out (by rw [HGZ.out]; exact Nat.le_refl _) _ _ _ _ _ _), Ke.nil (Ke.of (below_set6 HB2.out (by rw [HGZ.out]; exact Nat.le_refl _) _ _ _ _ _ _))⟩
      try simp [results, Try.f26, go_sem, p0, p1, p2, p3, p4, p5]
    · have h641 : ¬ (n : Int) ≥ 64 := by omega
      have h642 : decide ((64 : Int) ≤ (n : Int)) = false := decide_eq_false (by omega)
      have HS := Lib.hid (show R = ((⟨s, ten, conn, (X : Int), (S : Int), true⟩ : Ls), 0, (⟨ptL ⟨s, ten, conn, (X : Int), (S : Int), true⟩ b.l, ((X : Int) + 1)⟩ : Bo)) by rw [← hr, hn, if_neg h64])
      clear hr hn hAc
      go_enter Try.func26, Try.ntmps26
      go_upto_region 1 with fail
      try rw [hu1]
      try rw [hgz]
      rw [hgz] at HZ
      clear hu1 hgz
      go_upto_region 4 with (first | (go_at_call 31; (with_reducible refine (HN1.out _).mono ?_); rintro e u5 ⟨rfl, hu⟩; rw [← hu]; clear hu) | (go_at_call 31; (with_reducible refine (HN2.out _).mono ?_); rintro e u5 ⟨rfl, hu⟩; rw [← hu]; clear hu) | (go_at_call 41; (with_reducible refine (HC.out _).mono ?_); rintro e u5 ⟨rfl, hu⟩; rw [hu]; clear hu) | (go_at_call 34; (with_reducible refine (HT.out _).mono ?_); rintro e u5 ⟨rfl, hu⟩; rw [hu]; clear hu) | (go_at_call 53; (with_reducible refine HF0.out.mono ?_); rintro e u2 ⟨rfl, hb⟩; have HB2 := Lib.hid (HB.out.trans (hb.mono HB.out.size)); have HZ2 := Lib.hid (HZ.out.below hb HZ.out.lt); clear hb))
      have e0 : u2.cell? ⟨bb, 0, none⟩ = some (.slice A n c) := (HAC.out.below HB2.out HAC.out.lt).cell 0
      go_upto_region 12 with fail
      clear e0 HAC
      have e2 : u2.cell? ⟨bb, 2, none⟩ = some (.int .i64 (M : Int)) := by
        obtain ⟨⟨A, c, h1, _⟩, _, _⟩ := HL.out
        exact (h1.below HB2.out h1.lt).cell 2
      have e3 : u2.cell? ⟨bb, 3, none⟩ = some (.int .i64 (X : Int)) := by
        obtain ⟨⟨A, c, h1, _⟩, _, _⟩ := HL.out
        have hh := (h1.below HB2.out h1.lt).cell 3
        rw [← HX0.out]
        exact hh
      have HBz := Lib.hid (show Below u.heap.size u (u2.alloc (.cells #[.string ⟨#[]⟩, .string ⟨#[]⟩, .int .i64 0, .int .i64 0, .int .i64 0, .bool false] 32)) from HB2.out.alloc HB2.out.size _)
      have e2z : (u2.alloc (.cells #[.string ⟨#[]⟩, .string ⟨#[]⟩, .int .i64 0, .int .i64 0, .int .i64 0, .bool false] 32)).cell? ⟨bb, 2, none⟩ = some (.int .i64 (M : Int)) := by
        obtain ⟨⟨A, c, h1, _⟩, _, _⟩ := HL.out
        exact (h1.below HBz.out h1.lt).cell 2
      have e3z : (u2.alloc (.cells #[.string ⟨#[]⟩, .string ⟨#[]⟩, .int .i64 0, .int .i64 0, .int .i64 0, .bool false] 32)).cell? ⟨bb, 3, none⟩ = some (.int .i64 (X : Int)) := by
        obtain ⟨⟨A, c, h1, _⟩, _, _⟩ := HL.out
        have hh := (h1.below HBz.out h1.lt).cell 3
        rw [← HX0.out]
        exact hh
      go_region
      go_upto_region 13 with fail
      have hQ2 : (if M < D then (M : Int) else (D : Int)) = (Q : Int) := by split <;> omega
      have hw2 : wrap64 ((N : Int) + (Q : Int)) = (S : Int) := by first | exact hw3 | simpa [IntKind.wrap] using hw
      try rw [hQ2]
      try rw [hw2]
      clear hQ2 hw2 hQ hw hw3
      obtain ⟨gx, hgx⟩ : ∃ gx, u2.heap.size = gx := ⟨_, rfl⟩
      obtain ⟨t3, hu3⟩ : ∃ u3, (u2.alloc (.cells #[.string s, .string ten, .int .i64 conn, .int .i64 (X : Int), .int .i64 (S : Int), .bool true] 32)).drew = u3 := ⟨_, rfl⟩
      have HBt := Lib.hid (show Below u.heap.size u t3 by rw [← hu3]; exact (HB2.out.alloc HB2.out.size _).drew)
      have HX := Lib.hid (show Bk t3 gx 32 #[.string s, .string ten, .int .i64 conn, .int .i64 (X : Int), .int .i64 (S : Int), .bool true] by rw [← hu3, ← hgx]; exact (Bk.new _ _ _).drew)
      have HGX := Lib.hid (show u.heap.size ≤ gx by rw [← hgx]; exact HB2.out.size)
      have HZt := Lib.hid (show Bk t3 gz 32 #[.string ⟨#[]⟩, .string ⟨#[]⟩, .int .i64 0, .int .i64 0, .int .i64 0, .bool false] by rw [← hu3]; exact (HZ2.out.below ((Below.refl _ _).alloc (Nat.le_refl _) _) HZ2.out.lt).drew)
      try dsimp only
      rw [hu3]
      try rw [hgx]
      clear hu3 hgx e2 e3 e2z e3z HBz HB2 HZ2
      have e3 : t3.cell? ⟨bb, 3, none⟩ = some (.int .i64 (X : Int)) := by
        obtain ⟨⟨A, c, h1, _⟩, _, _⟩ := HL.out
        have hh := (h1.below HBt.out h1.lt).cell 3
        rw [← HX0.out]
        exact hh
      have e3f : t3.frozen? ⟨bb, 3, none⟩ = false := by
        obtain ⟨⟨A, c, h1, _⟩, _, _⟩ := HL.out
        exact (h1.below HBt.out h1.lt).frozen 3
      go_upto_region 14 with fail
      try rw [hnw]
      obtain ⟨t4, hu4⟩ : ∃ u4, t3.setCell ⟨bb, 3, none⟩ (.int .i64 ((X : Int) + 1)) = u4 := ⟨_, rfl⟩
      have hzb : gz ≠ bb := by have := HL.out.lt; have := HL.out.bs; have := HGZ.out; omega
      have hxb : gx ≠ bb := by have := HL.out.lt; have := HL.out.bs; have := HGX.out; omega
      have HK4 := Lib.hid (show Ke [bb] u t4 by rw [← hu4]; exact (Ke.nil (Ke.of HBt.out)).set (p := ⟨bb, 3, none⟩) (List.mem_singleton.2 rfl) _)
      have HX4 := Lib.hid (show Bk t4 gx 32 #[.string s, .string ten, .int .i64 conn, .int .i64 (X : Int), .int .i64 (S : Int), .bool true] by rw [← hu4]; exact HX.out.far (p := ⟨bb, 3, none⟩) hxb _)
      have HZ4 := Lib.hid (show Bk t4 gz 32 #[.string ⟨#[]⟩, .string ⟨#[]⟩, .int .i64 0, .int .i64 0, .int .i64 0, .bool false] by rw [← hu4]; exact HZt.out.far (p := ⟨bb, 3, none⟩) hzb _)
      have HL4 := Lib.hid (show Lr t4 bb B g (M : Int) ⟨b.l, ((X : Int) + 1)⟩ by rw [← hu4]; exact (HL.out.on HBt.out).next _)
      try rw [hu4]
      clear hu4 HBt HX HZt e3 e3f
      have x0 : t4.cell? ⟨gx, 0, none⟩ = some (.string s) := HX4.out.cell 0
      have x1 : t4.cell? ⟨gx, 1, none⟩ = some (.string ten) := HX4.out.cell 1
      have x2 : t4.cell? ⟨gx, 2, none⟩ = some (.int .i64 conn) := HX4.out.cell 2
      have x3 : t4.cell? ⟨gx, 3, none⟩ = some (.int .i64 (X : Int)) := HX4.out.cell 3
      have x4 : t4.cell? ⟨gx, 4, none⟩ = some (.int .i64 (S : Int)) := HX4.out.cell 4
      have x5 : t4.cell? ⟨gx, 5, none⟩ = some (.bool true) := HX4.out.cell 5
      have k0 := HX4.out.frozen 0
      have k1 := HX4.out.frozen 1
      have k2 := HX4.out.frozen 2
      have k3 := HX4.out.frozen 3
      have k4 := HX4.out.frozen 4
      have k5 := HX4.out.frozen 5
      have HP := Lib.hid (lrput_ok t4 bb B g (M : Int) ⟨b.l, ((X : Int) + 1)⟩ ⟨s, ten, conn, (X : Int), (S : Int), true⟩ HL4.out HBL.out.1 HBL.out.2)
      go_upto_region 15 with (go_at_call 39; (with_reducible refine HP.out.mono ?_); rintro e t6 ⟨rfl, hr, hk⟩; have HR6 := Lib.hid hr; have HK6 := Lib.hid hk; clear hr hk)
      clear x0 x1 x2 x3 x4 x5 k0 k1 k2 k3 k4 k5
      have HZ6 := Lib.hid (HZ4.out.ke HK6.out (by simpa using hzb))
      have HX6 := Lib.hid (HX4.out.ke HK6.out (by simpa using hxb))
      have z0 : t6.cell? ⟨gz, 0, none⟩ = some (.string ⟨#[]⟩) := HZ6.out.cell 0
      have z1 : t6.cell? ⟨gz, 1, none⟩ = some (.string ⟨#[]⟩) := HZ6.out.cell 1
      have z2 : t6.cell? ⟨gz, 2, none⟩ = some (.int .i64 0) := HZ6.out.cell 2
      have z3 : t6.cell? ⟨gz, 3, none⟩ = some (.int .i64 0) := HZ6.out.cell 3
      have z4 : t6.cell? ⟨gz, 4, none⟩ = some (.int .i64 0) := HZ6.out.cell 4
      have z5 : t6.cell? ⟨gz, 5, none⟩ = some (.bool false) := HZ6.out.cell 5
      have f0 := HZ6.out.frozen 0
      have f1 := HZ6.out.frozen 1
      have f2 := HZ6.out.frozen 2
      have f3 := HZ6.out.frozen 3
      have f4 := HZ6.out.frozen 4
      have f5 := HZ6.out.frozen 5
      have x0 : t6.cell? ⟨gx, 0, none⟩ = some (.string s) := HX6.out.cell 0
      have x1 : t6.cell? ⟨gx, 1, none⟩ = some (.string ten) := HX6.out.cell 1
      have x2 : t6.cell? ⟨gx, 2, none⟩ = some (.int .i64 conn) := HX6.out.cell 2
      have x3 : t6.cell? ⟨gx, 3, none⟩ = some (.int .i64 (X : Int)) := HX6.out.cell 3
      have x4 : t6.cell? ⟨gx, 4, none⟩ = some (.int .i64 (S : Int)) := HX6.out.cell 4
      have x5 : t6.cell? ⟨gx, 5, none⟩ = some (.bool true) := HX6.out.cell 5
      have k0 := HX6.out.frozen 0
      have k1 := HX6.out.frozen 1
      have k2 := HX6.out.frozen 2
      have k3 := HX6.out.frozen 3
      have k4 := HX6.out.frozen 4
      have k5 := HX6.out.frozen 5
      go_wp2
      have HU : Bk ((((((t6.setCell ⟨gz, 0, none⟩ (.string s)).setCell ⟨gz, 1, none⟩ (.string ten)).setCell ⟨gz, 2, none⟩ (.int .i64 conn)).setCell ⟨gz, 3, none⟩ (.int .i64 (X : Int))).setCell ⟨gz, 4, none⟩ (.int .i64 (S : Int))).setCell ⟨gz, 5, none⟩ (.bool true)) gz 32 #[.string s, .string ten, .int .i64 conn, .int .i64 (X : Int), .int .i64 (S : Int), .bool true] := HZ6.out.set6 _ _ _ _ _ _
      have p0 := HU.cell 0; have p1 := HU.cell 1; have p2 := HU.cell 2; have p3 := HU.cell 3; have p4 := HU.cell 4; have p5 := HU.cell 5
      refine bodyPost_ret (v := .tuple #[.agg #[.string s, .string ten, .int .i64 conn, .int .i64 (X : Int), .int .i64 (S : Int), .bool true], .int .i64 (0)]) ?_ rfl ⟨by rw [HS.out]; try rfl, by rw [HS.out]; exact .inr ((HR6.out.set6 (g := gz) HZ4.out.lt hzb _ _ _ _ _ _).weak HK4.out.size (Nat.lt_of_lt_of_le HL.out.lt HL.out.bs)), ke_set6 (HK4.out.trans HK6.out) (by rw [HGZ.out]; exact Nat.le_refl _) _ _ _ _ _ _⟩
      try simp [results, Try.f26, go_sem, p0, p1, p2, p3, p4, p5]
  | some y =>
    have HF1 := Lib.hid (show Calls Try.prog 53 #[.pointer (some ⟨bb, 0, none⟩), .string s] u1 fun e u' => (∃ i : Nat, e = .returned (.int .i64 (i : Int)) ∧ i < n ∧ b.l[i]? = some y) ∧ Below u1.heap.size u1 u' from HF.out.mono fun e u' hh => by
      obtain ⟨⟨i, z, h0, h1, h2, h4⟩ | ⟨_, h5⟩, hb⟩ := hh
      · rw [hf] at h4
        injection h4 with h4
        subst h4
        exact ⟨⟨i, h0, by rw [← HN.out]; exact h1, h2⟩, hb⟩
      · rw [hf] at h5; cases h5)
    have hym : y ∈ b.l := List.mem_of_find?_eq_some hf
    have HTY := Lib.hid (HTL.out y hym)
    rw [hf] at hr
    dsimp only at hr
    obtain ⟨A, c, hAc⟩ : ∃ A c, Bk u bb 46 (bkc A n c g (M : Int) b.nx) ∧ Rw 6 lsc u1 A b.l := by
      obtain ⟨⟨A, c, h1, h2⟩, _, _⟩ := HL.out
      exact ⟨A, c, by rw [← hn]; exact h1, (Ow.rw_ (f := lsc) (k := 6) (fun _ => rfl) h2).on HB.out⟩
    have HAC := Lib.hid hAc.1
    have HR := Lib.hid hAc.2
    clear hf HF hym hAc
    obtain ⟨yn, yt, yc, ye, yu, yh⟩ := y
    have HH := Lib.hid (fun w => lrheld_ok ⟨yn, yt, yc, ye, yu, yh⟩ (N : Int) w)
    have HKP := Lib.hid (fun w (hw : Below u.heap.size u w) => lrkept_ok w bb B g (M : Int) b ⟨yn, yt, yc, ye, yu, yh⟩ (N : Int) (HL.out.on hw) HG.out.1 HG.out.2 HTY.out.1 HTY.out.2)
    obtain ⟨hv, hhv⟩ : ∃ v, heL ⟨yn, yt, yc, ye, yu, yh⟩ (N : Int) = v := ⟨_, rfl⟩
    obtain ⟨kv, hkv⟩ : ∃ v, kpL g ⟨yn, yt, yc, ye, yu, yh⟩ (N : Int) = v := ⟨_, rfl⟩
    obtain ⟨q, hq⟩ : ∃ q, (yt.toList == ten.toList) = q := ⟨_, rfl⟩
    rw [show nmE yt ten = q from hq] at hr
    simp only [hhv] at HH
    simp only [hkv] at HKP
    rw [hhv, hkv] at hr
    have HRR := Lib.hid hr
    clear hhv hkv hr hn
    go_enter Try.func26, Try.ntmps26
    go_upto_region 1 with fail
    try rw [hu1]
    try rw [hgz]
    rw [hgz] at HZ
    clear hu1 hgz
    go_upto_region 4 with (first | (go_at_call 31; (with_reducible refine (HN1.out _).mono ?_); rintro e u5 ⟨rfl, hu⟩; rw [← hu]; clear hu) | (go_at_call 31; (with_reducible refine (HN2.out _).mono ?_); rintro e u5 ⟨rfl, hu⟩; rw [← hu]; clear hu) | (go_at_call 41; (with_reducible refine (HC.out _).mono ?_); rintro e u5 ⟨rfl, hu⟩; rw [hu]; clear hu) | (go_at_call 34; (with_reducible refine (HT.out _).mono ?_); rintro e u5 ⟨rfl, hu⟩; rw [hu]; clear hu) | (go_at_call 53; (with_reducible refine HF1.out.mono ?_); rintro e u2 ⟨⟨i, rfl, hi, hx⟩, hb⟩; have HI := Lib.hid (And.intro hi hx); have HB2 := Lib.hid (HB.out.trans (hb.mono HB.out.size)); have HZ2 := Lib.hid (HZ.out.below hb HZ.out.lt); have HBC := Lib.hid hb; clear hb hi hx))
    have hi1 := HI.out.1
    have hi2 : (i : Int) < (n : Int) := by omega
    have hi3 : ¬ (i : Int) < 0 := by omega
    have hi4 : decide ((i : Int) < 0) = false := decide_eq_false hi3
    have hi5 : (i : Int) ≥ 0 := by omega
    obtain ⟨bx, o, x', rfl, hx', hc⟩ := row6 HR.out i (by rw [HN.out]; exact hi1)
    have hxx : x' = ⟨yn, yt, yc, ye, yu, yh⟩ := by have h1 := HI.out.2; rw [hx'] at h1; injection h1
    subst hxx
    obtain ⟨c0, c1, c2, c3, c4, c5⟩ := hc u2 HBC.out
    try dsimp only at c0 c1 c2 c3 c4 c5
    have e0 : u2.cell? ⟨bb, 0, none⟩ = some (.slice (some ⟨bx, o, none⟩) n c) := (HAC.out.below HB2.out HAC.out.lt).cell 0
    clear hx' hc
    go_upto_region 6 with fail
    obtain ⟨gy, hgy⟩ : ∃ gx, u2.heap.size = gx := ⟨_, rfl⟩
    obtain ⟨u3, hu3⟩ : ∃ u3, u2.alloc (.cells #[.string yn, .string yt, .int .i64 yc, .int .i64 ye, .int .i64 yu, .bool yh] 32) = u3 := ⟨_, rfl⟩
    have HB3 := Lib.hid (show Below u.heap.size u u3 by rw [← hu3]; exact HB2.out.alloc HB2.out.size _)
    have HY3 := Lib.hid (show Bk u3 gy 32 #[.string yn, .string yt, .int .i64 yc, .int .i64 ye, .int .i64 yu, .bool yh] by rw [← hu3, ← hgy]; exact Bk.new _ _ _)
    have HZ3 := Lib.hid (show Bk u3 gz 32 #[.string ⟨#[]⟩, .string ⟨#[]⟩, .int .i64 0, .int .i64 0, .int .i64 0, .bool false] by rw [← hu3]; exact HZ2.out.below ((Below.refl _ _).alloc (Nat.le_refl _) _) HZ2.out.lt)
    try dsimp only
    rw [hu3]
    try rw [hgy]
    clear hu3 hgy e0 c0 c1 c2 c3 c4 c5 HB2 HZ2 HBC HAC HR
    have y0 : u3.cell? ⟨gy, 0, none⟩ = some (.string yn) := HY3.out.cell 0
    have y1 : u3.cell? ⟨gy, 1, none⟩ = some (.string yt) := HY3.out.cell 1
    have y2 : u3.cell? ⟨gy, 2, none⟩ = some (.int .i64 yc) := HY3.out.cell 2
    have y3 : u3.cell? ⟨gy, 3, none⟩ = some (.int .i64 ye) := HY3.out.cell 3
    have y4 : u3.cell? ⟨gy, 4, none⟩ = some (.int .i64 yu) := HY3.out.cell 4
    have y5 : u3.cell? ⟨gy, 5, none⟩ = some (.bool yh) := HY3.out.cell 5
    have k0 := HY3.out.frozen 0
    have k1 := HY3.out.frozen 1
    have k2 := HY3.out.frozen 2
    have k3 := HY3.out.frozen 3
    have k4 := HY3.out.frozen 4
    have k5 := HY3.out.frozen 5
    cases q with
    | true =>
      cases hv with
      | true =>
        have HS := Lib.hid (show R = (zeroLs, 4, b) by rw [← HRR.out]; rfl)
        go_upto_region 9 with (go_at_call 46; (with_reducible refine (HH.out _).mono ?_); rintro e u4 ⟨rfl, hb⟩; have HB4 := Lib.hid (HB3.out.trans (hb.mono HB3.out.size)); have HZ4 := Lib.hid (HZ3.out.below hb HZ3.out.lt); have HY4 := Lib.hid (HY3.out.below hb HY3.out.lt); have y40 : u4.cell? ⟨gy, 0, none⟩ = some (.string yn) := HY4.out.cell 0; have y41 : u4.cell? ⟨gy, 1, none⟩ = some (.string yt) := HY4.out.cell 1; have y42 : u4.cell? ⟨gy, 2, none⟩ = some (.int .i64 yc) := HY4.out.cell 2; have y43 : u4.cell? ⟨gy, 3, none⟩ = some (.int .i64 ye) := HY4.out.cell 3; have y44 : u4.cell? ⟨gy, 4, none⟩ = some (.int .i64 yu) := HY4.out.cell 4; have y45 : u4.cell? ⟨gy, 5, none⟩ = some (.bool yh) := HY4.out.cell 5; clear hb)
        clear y0 y1 y2 y3 y4 y5 k0 k1 k2 k3 k4 k5
        have z0 : u4.cell? ⟨gz, 0, none⟩ = some (.string ⟨#[]⟩) := HZ4.out.cell 0
        have z1 : u4.cell? ⟨gz, 1, none⟩ = some (.string ⟨#[]⟩) := HZ4.out.cell 1
        have z2 : u4.cell? ⟨gz, 2, none⟩ = some (.int .i64 0) := HZ4.out.cell 2
        have z3 : u4.cell? ⟨gz, 3, none⟩ = some (.int .i64 0) := HZ4.out.cell 3
        have z4 : u4.cell? ⟨gz, 4, none⟩ = some (.int .i64 0) := HZ4.out.cell 4
        have z5 : u4.cell? ⟨gz, 5, none⟩ = some (.bool false) := HZ4.out.cell 5
        have f0 := HZ4.out.frozen 0
        have f1 := HZ4.out.frozen 1
        have f2 := HZ4.out.frozen 2
        have f3 := HZ4.out.frozen 3
        have f4 := HZ4.out.frozen 4
        have f5 := HZ4.out.frozen 5
        go_wp2
        have HU : Bk ((((((u4.setCell ⟨gz, 0, none⟩ (.string ⟨#[]⟩)).setCell ⟨gz, 1, none⟩ (.string ⟨#[]⟩)).setCell ⟨gz, 2, none⟩ (.int .i64 0)).setCell ⟨gz, 3, none⟩ (.int .i64 0)).setCell ⟨gz, 4, none⟩ (.int .i64 0)).setCell ⟨gz, 5, none⟩ (.bool false)) gz 32 #[.string ⟨#[]⟩, .string ⟨#[]⟩, .int .i64 0, .int .i64 0, .int .i64 0, .bool false] := HZ4.out.set6 _ _ _ _ _ _
        have p0 := HU.cell 0; have p1 := HU.cell 1; have p2 := HU.cell 2; have p3 := HU.cell 3; have p4 := HU.cell 4; have p5 := HU.cell 5
        refine bodyPost_ret (v := .tuple #[.agg #[.string ⟨#[]⟩, .string ⟨#[]⟩, .int .i64 0, .int .i64 0, .int .i64 0, .bool false], .int .i64 (4)]) ?_ rfl ⟨by rw [HS.out]; try rfl, by rw [HS.out]; exact HL.out.same (below_set6 HB4.out (by rw [HGZ.out]; exact Nat.le_refl _) _ _ _ _ _ _), Ke.nil (Ke.of (below_set6 HB4.out (by rw [HGZ.out]; exact Nat.le_refl _) _ _ _ _ _ _))⟩
        try simp [results, Try.f26, go_sem, p0, p1, p2, p3, p4, p5]
      | false =>
        have HS := Lib.hid (show R = ((⟨s, ten, conn, (X : Int), (S : Int), true⟩ : Ls), 0, (⟨ptL ⟨s, ten, conn, (X : Int), (S : Int), true⟩ b.l, ((X : Int) + 1)⟩ : Bo)) by rw [← HRR.out]; rfl)
        go_upto_region 12 with (go_at_call 46; (with_reducible refine (HH.out _).mono ?_); rintro e u4 ⟨rfl, hb⟩; have HB4 := Lib.hid (HB3.out.trans (hb.mono HB3.out.size)); have HZ4 := Lib.hid (HZ3.out.below hb HZ3.out.lt); have HY4 := Lib.hid (HY3.out.below hb HY3.out.lt); have y40 : u4.cell? ⟨gy, 0, none⟩ = some (.string yn) := HY4.out.cell 0; have y41 : u4.cell? ⟨gy, 1, none⟩ = some (.string yt) := HY4.out.cell 1; have y42 : u4.cell? ⟨gy, 2, none⟩ = some (.int .i64 yc) := HY4.out.cell 2; have y43 : u4.cell? ⟨gy, 3, none⟩ = some (.int .i64 ye) := HY4.out.cell 3; have y44 : u4.cell? ⟨gy, 4, none⟩ = some (.int .i64 yu) := HY4.out.cell 4; have y45 : u4.cell? ⟨gy, 5, none⟩ = some (.bool yh) := HY4.out.cell 5; clear hb)
        clear y0 y1 y2 y3 y4 y5 k0 k1 k2 k3 k4 k5 y40 y41 y42 y43 y44 y45
        have e2 : u4.cell? ⟨bb, 2, none⟩ = some (.int .i64 (M : Int)) := by
          obtain ⟨⟨A, c, h1, _⟩, _, _⟩ := HL.out
          exact (h1.below HB4.out h1.lt).cell 2
        have e3 : u4.cell? ⟨bb, 3, none⟩ = some (.int .i64 (X : Int)) := by
          obtain ⟨⟨A, c, h1, _⟩, _, _⟩ := HL.out
          have hh := (h1.below HB4.out h1.lt).cell 3
          rw [← HX0.out]
          exact hh
        have HBz := Lib.hid (show Below u.heap.size u (u4.alloc (.cells #[.string ⟨#[]⟩, .string ⟨#[]⟩, .int .i64 0, .int .i64 0, .int .i64 0, .bool false] 32)) from HB4.out.alloc HB4.out.size _)
        have e2z : (u4.alloc (.cells #[.string ⟨#[]⟩, .string ⟨#[]⟩, .int .i64 0, .int .i64 0, .int .i64 0, .bool false] 32)).cell? ⟨bb, 2, none⟩ = some (.int .i64 (M : Int)) := by
          obtain ⟨⟨A, c, h1, _⟩, _, _⟩ := HL.out
          exact (h1.below HBz.out h1.lt).cell 2
        have e3z : (u4.alloc (.cells #[.string ⟨#[]⟩, .string ⟨#[]⟩, .int .i64 0, .int .i64 0, .int .i64 0, .bool false] 32)).cell? ⟨bb, 3, none⟩ = some (.int .i64 (X : Int)) := by
          obtain ⟨⟨A, c, h1, _⟩, _, _⟩ := HL.out
          have hh := (h1.below HBz.out h1.lt).cell 3
          rw [← HX0.out]
          exact hh
        go_region
        go_upto_region 13 with fail
        have hQ2 : (if M < D then (M : Int) else (D : Int)) = (Q : Int) := by split <;> omega
        have hw2 : wrap64 ((N : Int) + (Q : Int)) = (S : Int) := by first | exact hw3 | simpa [IntKind.wrap] using hw
        try rw [hQ2]
        try rw [hw2]
        clear hQ2 hw2 hQ hw hw3
        obtain ⟨gx, hgx⟩ : ∃ gx, u4.heap.size = gx := ⟨_, rfl⟩
        obtain ⟨t3, hu3⟩ : ∃ u3, (u4.alloc (.cells #[.string s, .string ten, .int .i64 conn, .int .i64 (X : Int), .int .i64 (S : Int), .bool true] 32)).drew = u3 := ⟨_, rfl⟩
        have HBt := Lib.hid (show Below u.heap.size u t3 by rw [← hu3]; exact (HB4.out.alloc HB4.out.size _).drew)
        have HX := Lib.hid (show Bk t3 gx 32 #[.string s, .string ten, .int .i64 conn, .int .i64 (X : Int), .int .i64 (S : Int), .bool true] by rw [← hu3, ← hgx]; exact (Bk.new _ _ _).drew)
        have HGX := Lib.hid (show u.heap.size ≤ gx by rw [← hgx]; exact HB4.out.size)
        have HZt := Lib.hid (show Bk t3 gz 32 #[.string ⟨#[]⟩, .string ⟨#[]⟩, .int .i64 0, .int .i64 0, .int .i64 0, .bool false] by rw [← hu3]; exact (HZ4.out.below ((Below.refl _ _).alloc (Nat.le_refl _) _) HZ4.out.lt).drew)
        try dsimp only
        rw [hu3]
        try rw [hgx]
        clear hu3 hgx e2 e3 e2z e3z HBz HB4 HZ4
        have e3 : t3.cell? ⟨bb, 3, none⟩ = some (.int .i64 (X : Int)) := by
          obtain ⟨⟨A, c, h1, _⟩, _, _⟩ := HL.out
          have hh := (h1.below HBt.out h1.lt).cell 3
          rw [← HX0.out]
          exact hh
        have e3f : t3.frozen? ⟨bb, 3, none⟩ = false := by
          obtain ⟨⟨A, c, h1, _⟩, _, _⟩ := HL.out
          exact (h1.below HBt.out h1.lt).frozen 3
        go_upto_region 14 with fail
        try rw [hnw]
        obtain ⟨t4, hu4⟩ : ∃ u4, t3.setCell ⟨bb, 3, none⟩ (.int .i64 ((X : Int) + 1)) = u4 := ⟨_, rfl⟩
        have hzb : gz ≠ bb := by have := HL.out.lt; have := HL.out.bs; have := HGZ.out; omega
        have hxb : gx ≠ bb := by have := HL.out.lt; have := HL.out.bs; have := HGX.out; omega
        have HK4 := Lib.hid (show Ke [bb] u t4 by rw [← hu4]; exact (Ke.nil (Ke.of HBt.out)).set (p := ⟨bb, 3, none⟩) (List.mem_singleton.2 rfl) _)
        have HX4 := Lib.hid (show Bk t4 gx 32 #[.string s, .string ten, .int .i64 conn, .int .i64 (X : Int), .int .i64 (S : Int), .bool true] by rw [← hu4]; exact HX.out.far (p := ⟨bb, 3, none⟩) hxb _)
        have HZ4 := Lib.hid (show Bk t4 gz 32 #[.string ⟨#[]⟩, .string ⟨#[]⟩, .int .i64 0, .int .i64 0, .int .i64 0, .bool false] by rw [← hu4]; exact HZt.out.far (p := ⟨bb, 3, none⟩) hzb _)
        have HL4 := Lib.hid (show Lr t4 bb B g (M : Int) ⟨b.l, ((X : Int) + 1)⟩ by rw [← hu4]; exact (HL.out.on HBt.out).next _)
        try rw [hu4]
        clear hu4 HBt HX HZt e3 e3f
        have x0 : t4.cell? ⟨gx, 0, none⟩ = some (.string s) := HX4.out.cell 0
        have x1 : t4.cell? ⟨gx, 1, none⟩ = some (.string ten) := HX4.out.cell 1
        have x2 : t4.cell? ⟨gx, 2, none⟩ = some (.int .i64 conn) := HX4.out.cell 2
        have x3 : t4.cell? ⟨gx, 3, none⟩ = some (.int .i64 (X : Int)) := HX4.out.cell 3
        have x4 : t4.cell? ⟨gx, 4, none⟩ = some (.int .i64 (S : Int)) := HX4.out.cell 4
        have x5 : t4.cell? ⟨gx, 5, none⟩ = some (.bool true) := HX4.out.cell 5
        have k0 := HX4.out.frozen 0
        have k1 := HX4.out.frozen 1
        have k2 := HX4.out.frozen 2
        have k3 := HX4.out.frozen 3
        have k4 := HX4.out.frozen 4
        have k5 := HX4.out.frozen 5
        have HP := Lib.hid (lrput_ok t4 bb B g (M : Int) ⟨b.l, ((X : Int) + 1)⟩ ⟨s, ten, conn, (X : Int), (S : Int), true⟩ HL4.out HBL.out.1 HBL.out.2)
        go_upto_region 15 with (go_at_call 39; (with_reducible refine HP.out.mono ?_); rintro e t6 ⟨rfl, hr, hk⟩; have HR6 := Lib.hid hr; have HK6 := Lib.hid hk; clear hr hk)
        clear x0 x1 x2 x3 x4 x5 k0 k1 k2 k3 k4 k5
        have HZ6 := Lib.hid (HZ4.out.ke HK6.out (by simpa using hzb))
        have HX6 := Lib.hid (HX4.out.ke HK6.out (by simpa using hxb))
        have z0 : t6.cell? ⟨gz, 0, none⟩ = some (.string ⟨#[]⟩) := HZ6.out.cell 0
        have z1 : t6.cell? ⟨gz, 1, none⟩ = some (.string ⟨#[]⟩) := HZ6.out.cell 1
        have z2 : t6.cell? ⟨gz, 2, none⟩ = some (.int .i64 0) := HZ6.out.cell 2
        have z3 : t6.cell? ⟨gz, 3, none⟩ = some (.int .i64 0) := HZ6.out.cell 3
        have z4 : t6.cell? ⟨gz, 4, none⟩ = some (.int .i64 0) := HZ6.out.cell 4
        have z5 : t6.cell? ⟨gz, 5, none⟩ = some (.bool false) := HZ6.out.cell 5
        have f0 := HZ6.out.frozen 0
        have f1 := HZ6.out.frozen 1
        have f2 := HZ6.out.frozen 2
        have f3 := HZ6.out.frozen 3
        have f4 := HZ6.out.frozen 4
        have f5 := HZ6.out.frozen 5
        have x0 : t6.cell? ⟨gx, 0, none⟩ = some (.string s) := HX6.out.cell 0
        have x1 : t6.cell? ⟨gx, 1, none⟩ = some (.string ten) := HX6.out.cell 1
        have x2 : t6.cell? ⟨gx, 2, none⟩ = some (.int .i64 conn) := HX6.out.cell 2
        have x3 : t6.cell? ⟨gx, 3, none⟩ = some (.int .i64 (X : Int)) := HX6.out.cell 3
        have x4 : t6.cell? ⟨gx, 4, none⟩ = some (.int .i64 (S : Int)) := HX6.out.cell 4
        have x5 : t6.cell? ⟨gx, 5, none⟩ = some (.bool true) := HX6.out.cell 5
        have k0 := HX6.out.frozen 0
        have k1 := HX6.out.frozen 1
        have k2 := HX6.out.frozen 2
        have k3 := HX6.out.frozen 3
        have k4 := HX6.out.frozen 4
        have k5 := HX6.out.frozen 5
        go_wp2
        have HU : Bk ((((((t6.setCell ⟨gz, 0, none⟩ (.string s)).setCell ⟨gz, 1, none⟩ (.string ten)).setCell ⟨gz, 2, none⟩ (.int .i64 conn)).setCell ⟨gz, 3, none⟩ (.int .i64 (X : Int))).setCell ⟨gz, 4, none⟩ (.int .i64 (S : Int))).setCell ⟨gz, 5, none⟩ (.bool true)) gz 32 #[.string s, .string ten, .int .i64 conn, .int .i64 (X : Int), .int .i64 (S : Int), .bool true] := HZ6.out.set6 _ _ _ _ _ _
        have p0 := HU.cell 0; have p1 := HU.cell 1; have p2 := HU.cell 2; have p3 := HU.cell 3; have p4 := HU.cell 4; have p5 := HU.cell 5
        refine bodyPost_ret (v := .tuple #[.agg #[.string s, .string ten, .int .i64 conn, .int .i64 (X : Int), .int .i64 (S : Int), .bool true], .int .i64 (0)]) ?_ rfl ⟨by rw [HS.out]; try rfl, by rw [HS.out]; exact .inr ((HR6.out.set6 (g := gz) HZ4.out.lt hzb _ _ _ _ _ _).weak HK4.out.size (Nat.lt_of_lt_of_le HL.out.lt HL.out.bs)), ke_set6 (HK4.out.trans HK6.out) (by rw [HGZ.out]; exact Nat.le_refl _) _ _ _ _ _ _⟩
        try simp [results, Try.f26, go_sem, p0, p1, p2, p3, p4, p5]
    | false =>
      cases hv with
      | true =>
        have HS := Lib.hid (show R = (zeroLs, 131, b) by rw [← HRR.out]; rfl)
        go_upto_region 7 with (go_at_call 46; (with_reducible refine (HH.out _).mono ?_); rintro e u4 ⟨rfl, hb⟩; have HB4 := Lib.hid (HB3.out.trans (hb.mono HB3.out.size)); have HZ4 := Lib.hid (HZ3.out.below hb HZ3.out.lt); have HY4 := Lib.hid (HY3.out.below hb HY3.out.lt); have y40 : u4.cell? ⟨gy, 0, none⟩ = some (.string yn) := HY4.out.cell 0; have y41 : u4.cell? ⟨gy, 1, none⟩ = some (.string yt) := HY4.out.cell 1; have y42 : u4.cell? ⟨gy, 2, none⟩ = some (.int .i64 yc) := HY4.out.cell 2; have y43 : u4.cell? ⟨gy, 3, none⟩ = some (.int .i64 ye) := HY4.out.cell 3; have y44 : u4.cell? ⟨gy, 4, none⟩ = some (.int .i64 yu) := HY4.out.cell 4; have y45 : u4.cell? ⟨gy, 5, none⟩ = some (.bool yh) := HY4.out.cell 5; clear hb)
        clear y0 y1 y2 y3 y4 y5 k0 k1 k2 k3 k4 k5
        have z0 : u4.cell? ⟨gz, 0, none⟩ = some (.string ⟨#[]⟩) := HZ4.out.cell 0
        have z1 : u4.cell? ⟨gz, 1, none⟩ = some (.string ⟨#[]⟩) := HZ4.out.cell 1
        have z2 : u4.cell? ⟨gz, 2, none⟩ = some (.int .i64 0) := HZ4.out.cell 2
        have z3 : u4.cell? ⟨gz, 3, none⟩ = some (.int .i64 0) := HZ4.out.cell 3
        have z4 : u4.cell? ⟨gz, 4, none⟩ = some (.int .i64 0) := HZ4.out.cell 4
        have z5 : u4.cell? ⟨gz, 5, none⟩ = some (.bool false) := HZ4.out.cell 5
        have f0 := HZ4.out.frozen 0
        have f1 := HZ4.out.frozen 1
        have f2 := HZ4.out.frozen 2
        have f3 := HZ4.out.frozen 3
        have f4 := HZ4.out.frozen 4
        have f5 := HZ4.out.frozen 5
        go_wp2
        have HU : Bk ((((((u4.setCell ⟨gz, 0, none⟩ (.string ⟨#[]⟩)).setCell ⟨gz, 1, none⟩ (.string ⟨#[]⟩)).setCell ⟨gz, 2, none⟩ (.int .i64 0)).setCell ⟨gz, 3, none⟩ (.int .i64 0)).setCell ⟨gz, 4, none⟩ (.int .i64 0)).setCell ⟨gz, 5, none⟩ (.bool false)) gz 32 #[.string ⟨#[]⟩, .string ⟨#[]⟩, .int .i64 0, .int .i64 0, .int .i64 0, .bool false] := HZ4.out.set6 _ _ _ _ _ _
        have p0 := HU.cell 0; have p1 := HU.cell 1; have p2 := HU.cell 2; have p3 := HU.cell 3; have p4 := HU.cell 4; have p5 := HU.cell 5
        refine bodyPost_ret (v := .tuple #[.agg #[.string ⟨#[]⟩, .string ⟨#[]⟩, .int .i64 0, .int .i64 0, .int .i64 0, .bool false], .int .i64 (131)]) ?_ rfl ⟨by rw [HS.out]; try rfl, by rw [HS.out]; exact HL.out.same (below_set6 HB4.out (by rw [HGZ.out]; exact Nat.le_refl _) _ _ _ _ _ _), Ke.nil (Ke.of (below_set6 HB4.out (by rw [HGZ.out]; exact Nat.le_refl _) _ _ _ _ _ _))⟩
        try simp [results, Try.f26, go_sem, p0, p1, p2, p3, p4, p5]
      | false =>
        cases kv with
        | true =>
          have HS := Lib.hid (show R = (zeroLs, 131, b) by rw [← HRR.out]; rfl)
          go_upto_region 7 with (first | (go_at_call 46; (with_reducible refine (HH.out _).mono ?_); rintro e u4 ⟨rfl, hb⟩; have HB4 := Lib.hid (HB3.out.trans (hb.mono HB3.out.size)); have HZ4 := Lib.hid (HZ3.out.below hb HZ3.out.lt); have HY4 := Lib.hid (HY3.out.below hb HY3.out.lt); have y40 : u4.cell? ⟨gy, 0, none⟩ = some (.string yn) := HY4.out.cell 0; have y41 : u4.cell? ⟨gy, 1, none⟩ = some (.string yt) := HY4.out.cell 1; have y42 : u4.cell? ⟨gy, 2, none⟩ = some (.int .i64 yc) := HY4.out.cell 2; have y43 : u4.cell? ⟨gy, 3, none⟩ = some (.int .i64 ye) := HY4.out.cell 3; have y44 : u4.cell? ⟨gy, 4, none⟩ = some (.int .i64 yu) := HY4.out.cell 4; have y45 : u4.cell? ⟨gy, 5, none⟩ = some (.bool yh) := HY4.out.cell 5; clear hb) | (go_at_call 49; (with_reducible refine (HKP.out _ HB4.out).mono ?_); rintro e u5 ⟨rfl, hb⟩; have HB5 := Lib.hid (HB4.out.trans (hb.mono HB4.out.size)); have HZ5 := Lib.hid (HZ4.out.below hb HZ4.out.lt); have HY5 := Lib.hid (HY4.out.below hb HY4.out.lt); have y50 : u5.cell? ⟨gy, 0, none⟩ = some (.string yn) := HY5.out.cell 0; have y51 : u5.cell? ⟨gy, 1, none⟩ = some (.string yt) := HY5.out.cell 1; have y52 : u5.cell? ⟨gy, 2, none⟩ = some (.int .i64 yc) := HY5.out.cell 2; have y53 : u5.cell? ⟨gy, 3, none⟩ = some (.int .i64 ye) := HY5.out.cell 3; have y54 : u5.cell? ⟨gy, 4, none⟩ = some (.int .i64 yu) := HY5.out.cell 4; have y55 : u5.cell? ⟨gy, 5, none⟩ = some (.bool yh) := HY5.out.cell 5; clear hb))
          clear y0 y1 y2 y3 y4 y5 k0 k1 k2 k3 k4 k5
          have z0 : u5.cell? ⟨gz, 0, none⟩ = some (.string ⟨#[]⟩) := HZ5.out.cell 0
          have z1 : u5.cell? ⟨gz, 1, none⟩ = some (.string ⟨#[]⟩) := HZ5.out.cell 1
          have z2 : u5.cell? ⟨gz, 2, none⟩ = some (.int .i64 0) := HZ5.out.cell 2
          have z3 : u5.cell? ⟨gz, 3, none⟩ = some (.int .i64 0) := HZ5.out.cell 3
          have z4 : u5.cell? ⟨gz, 4, none⟩ = some (.int .i64 0) := HZ5.out.cell 4
          have z5 : u5.cell? ⟨gz, 5, none⟩ = some (.bool false) := HZ5.out.cell 5
          have f0 := HZ5.out.frozen 0
          have f1 := HZ5.out.frozen 1
          have f2 := HZ5.out.frozen 2
          have f3 := HZ5.out.frozen 3
          have f4 := HZ5.out.frozen 4
          have f5 := HZ5.out.frozen 5
          go_wp2
          have HU : Bk ((((((u5.setCell ⟨gz, 0, none⟩ (.string ⟨#[]⟩)).setCell ⟨gz, 1, none⟩ (.string ⟨#[]⟩)).setCell ⟨gz, 2, none⟩ (.int .i64 0)).setCell ⟨gz, 3, none⟩ (.int .i64 0)).setCell ⟨gz, 4, none⟩ (.int .i64 0)).setCell ⟨gz, 5, none⟩ (.bool false)) gz 32 #[.string ⟨#[]⟩, .string ⟨#[]⟩, .int .i64 0, .int .i64 0, .int .i64 0, .bool false] := HZ5.out.set6 _ _ _ _ _ _
          have p0 := HU.cell 0; have p1 := HU.cell 1; have p2 := HU.cell 2; have p3 := HU.cell 3; have p4 := HU.cell 4; have p5 := HU.cell 5
          refine bodyPost_ret (v := .tuple #[.agg #[.string ⟨#[]⟩, .string ⟨#[]⟩, .int .i64 0, .int .i64 0, .int .i64 0, .bool false], .int .i64 (131)]) ?_ rfl ⟨by rw [HS.out]; try rfl, by rw [HS.out]; exact HL.out.same (below_set6 HB5.out (by rw [HGZ.out]; exact Nat.le_refl _) _ _ _ _ _ _), Ke.nil (Ke.of (below_set6 HB5.out (by rw [HGZ.out]; exact Nat.le_refl _) _ _ _ _ _ _))⟩
          try simp [results, Try.f26, go_sem, p0, p1, p2, p3, p4, p5]
        | false =>
          have HS := Lib.hid (show R = ((⟨s, ten, conn, (X : Int), (S : Int), true⟩ : Ls), 0, (⟨ptL ⟨s, ten, conn, (X : Int), (S : Int), true⟩ b.l, ((X : Int) + 1)⟩ : Bo)) by rw [← HRR.out]; rfl)
          go_upto_region 8 with (first | (go_at_call 46; (with_reducible refine (HH.out _).mono ?_); rintro e u4 ⟨rfl, hb⟩; have HB4 := Lib.hid (HB3.out.trans (hb.mono HB3.out.size)); have HZ4 := Lib.hid (HZ3.out.below hb HZ3.out.lt); have HY4 := Lib.hid (HY3.out.below hb HY3.out.lt); have y40 : u4.cell? ⟨gy, 0, none⟩ = some (.string yn) := HY4.out.cell 0; have y41 : u4.cell? ⟨gy, 1, none⟩ = some (.string yt) := HY4.out.cell 1; have y42 : u4.cell? ⟨gy, 2, none⟩ = some (.int .i64 yc) := HY4.out.cell 2; have y43 : u4.cell? ⟨gy, 3, none⟩ = some (.int .i64 ye) := HY4.out.cell 3; have y44 : u4.cell? ⟨gy, 4, none⟩ = some (.int .i64 yu) := HY4.out.cell 4; have y45 : u4.cell? ⟨gy, 5, none⟩ = some (.bool yh) := HY4.out.cell 5; clear hb) | (go_at_call 49; (with_reducible refine (HKP.out _ HB4.out).mono ?_); rintro e u5 ⟨rfl, hb⟩; have HB5 := Lib.hid (HB4.out.trans (hb.mono HB4.out.size)); have HZ5 := Lib.hid (HZ4.out.below hb HZ4.out.lt); have HY5 := Lib.hid (HY4.out.below hb HY4.out.lt); have y50 : u5.cell? ⟨gy, 0, none⟩ = some (.string yn) := HY5.out.cell 0; have y51 : u5.cell? ⟨gy, 1, none⟩ = some (.string yt) := HY5.out.cell 1; have y52 : u5.cell? ⟨gy, 2, none⟩ = some (.int .i64 yc) := HY5.out.cell 2; have y53 : u5.cell? ⟨gy, 3, none⟩ = some (.int .i64 ye) := HY5.out.cell 3; have y54 : u5.cell? ⟨gy, 4, none⟩ = some (.int .i64 yu) := HY5.out.cell 4; have y55 : u5.cell? ⟨gy, 5, none⟩ = some (.bool yh) := HY5.out.cell 5; clear hb))
          clear y0 y1 y2 y3 y4 y5 k0 k1 k2 k3 k4 k5
          go_upto_region 12 with (go_at_call 46; (with_reducible refine (HH.out _).mono ?_); rintro e u6 ⟨rfl, hb⟩; have HB6 := Lib.hid (HB5.out.trans (hb.mono HB5.out.size)); have HZ6 := Lib.hid (HZ5.out.below hb HZ5.out.lt); have HY6 := Lib.hid (HY5.out.below hb HY5.out.lt); have y60 : u6.cell? ⟨gy, 0, none⟩ = some (.string yn) := HY6.out.cell 0; have y61 : u6.cell? ⟨gy, 1, none⟩ = some (.string yt) := HY6.out.cell 1; have y62 : u6.cell? ⟨gy, 2, none⟩ = some (.int .i64 yc) := HY6.out.cell 2; have y63 : u6.cell? ⟨gy, 3, none⟩ = some (.int .i64 ye) := HY6.out.cell 3; have y64 : u6.cell? ⟨gy, 4, none⟩ = some (.int .i64 yu) := HY6.out.cell 4; have y65 : u6.cell? ⟨gy, 5, none⟩ = some (.bool yh) := HY6.out.cell 5; clear hb)
          clear y50 y51 y52 y53 y54 y55 y60 y61 y62 y63 y64 y65
          have e2 : u6.cell? ⟨bb, 2, none⟩ = some (.int .i64 (M : Int)) := by
            obtain ⟨⟨A, c, h1, _⟩, _, _⟩ := HL.out
            exact (h1.below HB6.out h1.lt).cell 2
          have e3 : u6.cell? ⟨bb, 3, none⟩ = some (.int .i64 (X : Int)) := by
            obtain ⟨⟨A, c, h1, _⟩, _, _⟩ := HL.out
            have hh := (h1.below HB6.out h1.lt).cell 3
            rw [← HX0.out]
            exact hh
          have HBz := Lib.hid (show Below u.heap.size u (u6.alloc (.cells #[.string ⟨#[]⟩, .string ⟨#[]⟩, .int .i64 0, .int .i64 0, .int .i64 0, .bool false] 32)) from HB6.out.alloc HB6.out.size _)
          have e2z : (u6.alloc (.cells #[.string ⟨#[]⟩, .string ⟨#[]⟩, .int .i64 0, .int .i64 0, .int .i64 0, .bool false] 32)).cell? ⟨bb, 2, none⟩ = some (.int .i64 (M : Int)) := by
            obtain ⟨⟨A, c, h1, _⟩, _, _⟩ := HL.out
            exact (h1.below HBz.out h1.lt).cell 2
          have e3z : (u6.alloc (.cells #[.string ⟨#[]⟩, .string ⟨#[]⟩, .int .i64 0, .int .i64 0, .int .i64 0, .bool false] 32)).cell? ⟨bb, 3, none⟩ = some (.int .i64 (X : Int)) := by
            obtain ⟨⟨A, c, h1, _⟩, _, _⟩ := HL.out
            have hh := (h1.below HBz.out h1.lt).cell 3
            rw [← HX0.out]
            exact hh
          go_region
          go_upto_region 13 with fail
          have hQ2 : (if M < D then (M : Int) else (D : Int)) = (Q : Int) := by split <;> omega
          have hw2 : wrap64 ((N : Int) + (Q : Int)) = (S : Int) := by first | exact hw3 | simpa [IntKind.wrap] using hw
          try rw [hQ2]
          try rw [hw2]
          clear hQ2 hw2 hQ hw hw3
          obtain ⟨gx, hgx⟩ : ∃ gx, u6.heap.size = gx := ⟨_, rfl⟩
          obtain ⟨t3, hu3⟩ : ∃ u3, (u6.alloc (.cells #[.string s, .string ten, .int .i64 conn, .int .i64 (X : Int), .int .i64 (S : Int), .bool true] 32)).drew = u3 := ⟨_, rfl⟩
          have HBt := Lib.hid (show Below u.heap.size u t3 by rw [← hu3]; exact (HB6.out.alloc HB6.out.size _).drew)
          have HX := Lib.hid (show Bk t3 gx 32 #[.string s, .string ten, .int .i64 conn, .int .i64 (X : Int), .int .i64 (S : Int), .bool true] by rw [← hu3, ← hgx]; exact (Bk.new _ _ _).drew)
          have HGX := Lib.hid (show u.heap.size ≤ gx by rw [← hgx]; exact HB6.out.size)
          have HZt := Lib.hid (show Bk t3 gz 32 #[.string ⟨#[]⟩, .string ⟨#[]⟩, .int .i64 0, .int .i64 0, .int .i64 0, .bool false] by rw [← hu3]; exact (HZ6.out.below ((Below.refl _ _).alloc (Nat.le_refl _) _) HZ6.out.lt).drew)
          try dsimp only
          rw [hu3]
          try rw [hgx]
          clear hu3 hgx e2 e3 e2z e3z HBz HB6 HZ6
          have e3 : t3.cell? ⟨bb, 3, none⟩ = some (.int .i64 (X : Int)) := by
            obtain ⟨⟨A, c, h1, _⟩, _, _⟩ := HL.out
            have hh := (h1.below HBt.out h1.lt).cell 3
            rw [← HX0.out]
            exact hh
          have e3f : t3.frozen? ⟨bb, 3, none⟩ = false := by
            obtain ⟨⟨A, c, h1, _⟩, _, _⟩ := HL.out
            exact (h1.below HBt.out h1.lt).frozen 3
          go_upto_region 14 with fail
          try rw [hnw]
          obtain ⟨t4, hu4⟩ : ∃ u4, t3.setCell ⟨bb, 3, none⟩ (.int .i64 ((X : Int) + 1)) = u4 := ⟨_, rfl⟩
          have hzb : gz ≠ bb := by have := HL.out.lt; have := HL.out.bs; have := HGZ.out; omega
          have hxb : gx ≠ bb := by have := HL.out.lt; have := HL.out.bs; have := HGX.out; omega
          have HK4 := Lib.hid (show Ke [bb] u t4 by rw [← hu4]; exact (Ke.nil (Ke.of HBt.out)).set (p := ⟨bb, 3, none⟩) (List.mem_singleton.2 rfl) _)
          have HX4 := Lib.hid (show Bk t4 gx 32 #[.string s, .string ten, .int .i64 conn, .int .i64 (X : Int), .int .i64 (S : Int), .bool true] by rw [← hu4]; exact HX.out.far (p := ⟨bb, 3, none⟩) hxb _)
          have HZ4 := Lib.hid (show Bk t4 gz 32 #[.string ⟨#[]⟩, .string ⟨#[]⟩, .int .i64 0, .int .i64 0, .int .i64 0, .bool false] by rw [← hu4]; exact HZt.out.far (p := ⟨bb, 3, none⟩) hzb _)
          have HL4 := Lib.hid (show Lr t4 bb B g (M : Int) ⟨b.l, ((X : Int) + 1)⟩ by rw [← hu4]; exact (HL.out.on HBt.out).next _)
          try rw [hu4]
          clear hu4 HBt HX HZt e3 e3f
          have x0 : t4.cell? ⟨gx, 0, none⟩ = some (.string s) := HX4.out.cell 0
          have x1 : t4.cell? ⟨gx, 1, none⟩ = some (.string ten) := HX4.out.cell 1
          have x2 : t4.cell? ⟨gx, 2, none⟩ = some (.int .i64 conn) := HX4.out.cell 2
          have x3 : t4.cell? ⟨gx, 3, none⟩ = some (.int .i64 (X : Int)) := HX4.out.cell 3
          have x4 : t4.cell? ⟨gx, 4, none⟩ = some (.int .i64 (S : Int)) := HX4.out.cell 4
          have x5 : t4.cell? ⟨gx, 5, none⟩ = some (.bool true) := HX4.out.cell 5
          have k0 := HX4.out.frozen 0
          have k1 := HX4.out.frozen 1
          have k2 := HX4.out.frozen 2
          have k3 := HX4.out.frozen 3
          have k4 := HX4.out.frozen 4
          have k5 := HX4.out.frozen 5
          have HP := Lib.hid (lrput_ok t4 bb B g (M : Int) ⟨b.l, ((X : Int) + 1)⟩ ⟨s, ten, conn, (X : Int), (S : Int), true⟩ HL4.out HBL.out.1 HBL.out.2)
          go_upto_region 15 with (go_at_call 39; (with_reducible refine HP.out.mono ?_); rintro e t6 ⟨rfl, hr, hk⟩; have HR6 := Lib.hid hr; have HK6 := Lib.hid hk; clear hr hk)
          clear x0 x1 x2 x3 x4 x5 k0 k1 k2 k3 k4 k5
          have HZ6 := Lib.hid (HZ4.out.ke HK6.out (by simpa using hzb))
          have HX6 := Lib.hid (HX4.out.ke HK6.out (by simpa using hxb))
          have z0 : t6.cell? ⟨gz, 0, none⟩ = some (.string ⟨#[]⟩) := HZ6.out.cell 0
          have z1 : t6.cell? ⟨gz, 1, none⟩ = some (.string ⟨#[]⟩) := HZ6.out.cell 1
          have z2 : t6.cell? ⟨gz, 2, none⟩ = some (.int .i64 0) := HZ6.out.cell 2
          have z3 : t6.cell? ⟨gz, 3, none⟩ = some (.int .i64 0) := HZ6.out.cell 3
          have z4 : t6.cell? ⟨gz, 4, none⟩ = some (.int .i64 0) := HZ6.out.cell 4
          have z5 : t6.cell? ⟨gz, 5, none⟩ = some (.bool false) := HZ6.out.cell 5
          have f0 := HZ6.out.frozen 0
          have f1 := HZ6.out.frozen 1
          have f2 := HZ6.out.frozen 2
          have f3 := HZ6.out.frozen 3
          have f4 := HZ6.out.frozen 4
          have f5 := HZ6.out.frozen 5
          have x0 : t6.cell? ⟨gx, 0, none⟩ = some (.string s) := HX6.out.cell 0
          have x1 : t6.cell? ⟨gx, 1, none⟩ = some (.string ten) := HX6.out.cell 1
          have x2 : t6.cell? ⟨gx, 2, none⟩ = some (.int .i64 conn) := HX6.out.cell 2
          have x3 : t6.cell? ⟨gx, 3, none⟩ = some (.int .i64 (X : Int)) := HX6.out.cell 3
          have x4 : t6.cell? ⟨gx, 4, none⟩ = some (.int .i64 (S : Int)) := HX6.out.cell 4
          have x5 : t6.cell? ⟨gx, 5, none⟩ = some (.bool true) := HX6.out.cell 5
          have k0 := HX6.out.frozen 0
          have k1 := HX6.out.frozen 1
          have k2 := HX6.out.frozen 2
          have k3 := HX6.out.frozen 3
          have k4 := HX6.out.frozen 4
          have k5 := HX6.out.frozen 5
          go_wp2
          have HU : Bk ((((((t6.setCell ⟨gz, 0, none⟩ (.string s)).setCell ⟨gz, 1, none⟩ (.string ten)).setCell ⟨gz, 2, none⟩ (.int .i64 conn)).setCell ⟨gz, 3, none⟩ (.int .i64 (X : Int))).setCell ⟨gz, 4, none⟩ (.int .i64 (S : Int))).setCell ⟨gz, 5, none⟩ (.bool true)) gz 32 #[.string s, .string ten, .int .i64 conn, .int .i64 (X : Int), .int .i64 (S : Int), .bool true] := HZ6.out.set6 _ _ _ _ _ _
          have p0 := HU.cell 0; have p1 := HU.cell 1; have p2 := HU.cell 2; have p3 := HU.cell 3; have p4 := HU.cell 4; have p5 := HU.cell 5
          refine bodyPost_ret (v := .tuple #[.agg #[.string s, .string ten, .int .i64 conn, .int .i64 (X : Int), .int .i64 (S : Int), .bool true], .int .i64 (0)]) ?_ rfl ⟨by rw [HS.out]; try rfl, by rw [HS.out]; exact .inr ((HR6.out.set6 (g := gz) HZ4.out.lt hzb _ _ _ _ _ _).weak HK4.out.size (Nat.lt_of_lt_of_le HL.out.lt HL.out.bs)), ke_set6 (HK4.out.trans HK6.out) (by rw [HGZ.out]; exact Nat.le_refl _) _ _ _ _ _ _⟩
          try simp [results, Try.f26, go_sem, p0, p1, p2, p3, p4, p5]
end Go.Proofs.Ytpbobmiajjgekaa
