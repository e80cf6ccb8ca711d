/- Claim: its contract. (Written by gen_lz8.py.) -/
import Derived.Test.YtpbobmiajjgekaaLz7
import Derived.Test.YtpbobmiajjgekaaSClone
namespace Go.Proofs.Ytpbobmiajjgekaa
set_option linter.unusedVariables false
set_option maxRecDepth 100000
set_option linter.unusedSimpArgs false
open Go.RowKit

/-- A store into the map, as one operation. -/
theorem op_lstore {o : Oper} {a : Act} {K : Act → World → Prop} {Q : Exit → Act → World → Prop} {w : World} (m x v : Operand) (hop : o.op = Op.mapUpdate 58 m x v)
    (mb : Nat) (l : List (ByteArray × Nat)) (s : ByteArray) (b : Nat) (hm : a.eval m = .map (some mb)) (hx : a.eval x = .string s) (hv : a.eval v = lptr b) (h : Ml w mb l) (hl : (outK s l).length ≤ 1024) (hs : s.size ≤ 140737488355328)
    (hK : ∀ w', Ml w' mb ((s, b) :: outK s l) → Ke [mb] w w' → K (a.put o.dst undef) w') : o.wp Try.prog a w K Q := by
  obtain ⟨w', hrun, r1, r2⟩ := h.store hl b hs
  unfold Oper.wp
  simp [execOp, hop, hm, hx, hv, hrun, Result.andThen]
  exact hK w' r1 r2
theorem nameB_size {s : ByteArray} (h : nameB s = true) : s.size ≤ 20 := by
  unfold nameB at h
  simp only [Bool.and_eq_true, decide_eq_true_eq] at h
  exact h.1.1.1.2
theorem ptL_few {x : Ls} {l : List Ls} (h : UpL l) (hl : l.length ≤ 64) (hn : fnL x.name l = none → l.length < 64) : (ptL x l).length ≤ 64 := by
  cases hf : fnL x.name l with
  | none => have := hn hf; have := ptL_len (x := x) (l := l); omega
  | some y => rw [ptL_map h hf, List.length_map]; exact hl
/-- What Claim leaves. -/
structure ClP (gb mb : Nat) (ad : ByteArray → Nat) (g most : Int) (b : Bo) (R : Ls × Int × Bo) (u : World) (e : Ending) (u' : World) : Prop where
  e : e = .returned (.tuple #[.agg (lsc R.1), .int .i64 R.2.1])
  z : ∃ ad', Lz u' gb mb ad' g most R.2.2 ∧ Sp u u' (ftL gb mb ad b) (ftL gb mb ad' R.2.2)
theorem claim_st {g : Int} {x : Ls} {now : Int} : (heL x now || kpL g x now) = (stI g x now != 0) ∧ heL x now = (stI g x now == 2) := by
  unfold stI
  cases heL x now <;> cases kpL g x now <;> exact ⟨rfl, rfl⟩
theorem st_three (g : Int) (x : Ls) (now : Int) : stI g x now = 0 ∨ stI g x now = 1 ∨ stI g x now = 2 := by
  unfold stI
  split
  · exact .inr (.inr rfl)
  · split
    · exact .inr (.inl rfl)
    · exact .inl rfl
set_option maxRecDepth 100000 in
set_option maxHeartbeats 8000000 in
theorem lclaim_ok {u : World} {gb mb : Nat} {ad : ByteArray → Nat} {g most : Int} {b : Bo} (h : Lz u gb mb ad g most b) (ten s : ByteArray) (conn now ttl : Int) (ht : ten.size ≤ 140737488355328) (hs : s.size ≤ 140737488355328) (hnx : b.nx ≤ 1000000) :
    Calls Try.prog 25 #[.pointer (some ⟨gb, 0, none⟩), .string ten, .string s, .int .i64 conn, .int .i64 now, .int .i64 ttl] u (ClP gb mb ad g most b (claimL g most b ten s conn now ttl) u) := by
  obtain ⟨u1, hu1⟩ : ∃ u1, u.alloc (.cells #[.string ⟨#[]⟩, .string ⟨#[]⟩, .int .i64 0, .int .i64 0, .int .i64 0, .bool false] 32) = u1 := ⟨_, rfl⟩
  have HB := Lib.hid (show Below u.heap.size u u1 by rw [← hu1]; exact (Below.refl _ _).alloc (Nat.le_refl _) _)
  obtain ⟨gz, hgz⟩ : ∃ gz, u.heap.size = gz := ⟨_, rfl⟩
  have HGZ := Lib.hid hgz
  have HZ := Lib.hid (show Bk u1 gz 32 #[.string ⟨#[]⟩, .string ⟨#[]⟩, .int .i64 0, .int .i64 0, .int .i64 0, .bool false] by rw [← hu1, ← hgz]; exact Bk.new _ _ _)
  have HLZ := Lib.hid h
  have HL := Lib.hid (h.on HB.out)
  have HM := Lib.hid (fun w => lmoment_ok now w)
  have HSP := Lib.hid (fun w => lspan_ok ttl w)
  have HN1 := Lib.hid (fun w => name_ok ten w ht)
  have HN2 := Lib.hid (fun w => name_ok s w hs)
  have HSZ := Lib.hid (And.intro ht hs)
  obtain ⟨R, hR⟩ : ∃ R, claimL g most b ten s conn now ttl = R := ⟨_, rfl⟩
  have hr := hR
  rw [hR]
  unfold claimL at hr
  obtain ⟨a1, h1⟩ : ∃ a1, nameB ten = a1 := ⟨_, rfl⟩
  obtain ⟨a2, h2⟩ : ∃ a2, nameB s = a2 := ⟨_, rfl⟩
  obtain ⟨a3, h3⟩ : ∃ a3, clkB now = a3 := ⟨_, rfl⟩
  obtain ⟨a4, h4⟩ : ∃ a4, timB ttl = a4 := ⟨_, rfl⟩
  have HA2 := Lib.hid h2
  have HA3 := Lib.hid h3
  have HA4 := Lib.hid h4
  simp only [h1] at HN1 hr
  simp only [h2] at HN2 hr
  simp only [h3] at HM hr
  simp only [h4] at HSP hr
  have HR := Lib.hid hr
  have HNX0 := Lib.hid hnx
  clear hr hR h1 h2 h3 h4 h ht hs hnx
  cases a1 with
  | false =>
    have HS := Lib.hid (show R = (zeroLs, 1, b) by rw [← HR.out]; rfl)
    go_enter Try.func25, Try.ntmps25
    go_upto_region 1 with fail
    try rw [hu1]
    try rw [hgz]
    clear hu1 hgz
    have z0 : u1.cell? ⟨gz, 0, none⟩ = some (.string ⟨#[]⟩) := HZ.out.cell 0
    have z1 : u1.cell? ⟨gz, 1, none⟩ = some (.string ⟨#[]⟩) := HZ.out.cell 1
    have z2 : u1.cell? ⟨gz, 2, none⟩ = some (.int .i64 0) := HZ.out.cell 2
    have z3 : u1.cell? ⟨gz, 3, none⟩ = some (.int .i64 0) := HZ.out.cell 3
    have z4 : u1.cell? ⟨gz, 4, none⟩ = some (.int .i64 0) := HZ.out.cell 4
    have z5 : u1.cell? ⟨gz, 5, none⟩ = some (.bool false) := HZ.out.cell 5
    have f0 := HZ.out.frozen 0
    have f1 := HZ.out.frozen 1
    have f2 := HZ.out.frozen 2
    have f3 := HZ.out.frozen 3
    have f4 := HZ.out.frozen 4
    have f5 := HZ.out.frozen 5
    go_wp2_with (go_at_call 50; (with_reducible refine (HN1.out _).mono ?_); rintro e u5 ⟨rfl, hu⟩; rw [← hu]; clear hu)
    have HU : Bk ((((((u1.setCell ⟨gz, 0, none⟩ (.string ⟨#[]⟩)).setCell ⟨gz, 1, none⟩ (.string ⟨#[]⟩)).setCell ⟨gz, 2, none⟩ (.int .i64 0)).setCell ⟨gz, 3, none⟩ (.int .i64 0)).setCell ⟨gz, 4, none⟩ (.int .i64 0)).setCell ⟨gz, 5, none⟩ (.bool false)) gz 32 #[.string ⟨#[]⟩, .string ⟨#[]⟩, .int .i64 0, .int .i64 0, .int .i64 0, .bool false] := HZ.out.set6 _ _ _ _ _ _
    have p0 := HU.cell 0; have p1 := HU.cell 1; have p2 := HU.cell 2; have p3 := HU.cell 3; have p4 := HU.cell 4; have p5 := HU.cell 5
    refine bodyPost_ret (v := .tuple #[.agg #[.string ⟨#[]⟩, .string ⟨#[]⟩, .int .i64 0, .int .i64 0, .int .i64 0, .bool false], .int .i64 1]) ?_ rfl ⟨by rw [HS.out]; rfl, ad, by rw [HS.out]; exact HL.out.set6 (fun y hy => by have := HLZ.out.lt y hy; have := HGZ.out; omega) _ _ _ _ _ _, by rw [HS.out]; exact ⟨ke_set6' (Ke.nil (Ke.of HB.out)) (by rw [HGZ.out]; exact Nat.le_refl _) _ _ _ _ _ _, fun y hy => .inl hy⟩⟩
    try simp [results, Try.f25, go_sem, p0, p1, p2, p3, p4, p5]
  | true =>
    cases a2 with
    | false =>
      have HS := Lib.hid (show R = (zeroLs, 1, b) by rw [← HR.out]; rfl)
      go_enter Try.func25, Try.ntmps25
      go_upto_region 1 with fail
      try rw [hu1]
      try rw [hgz]
      clear hu1 hgz
      have z0 : u1.cell? ⟨gz, 0, none⟩ = some (.string ⟨#[]⟩) := HZ.out.cell 0
      have z1 : u1.cell? ⟨gz, 1, none⟩ = some (.string ⟨#[]⟩) := HZ.out.cell 1
      have z2 : u1.cell? ⟨gz, 2, none⟩ = some (.int .i64 0) := HZ.out.cell 2
      have z3 : u1.cell? ⟨gz, 3, none⟩ = some (.int .i64 0) := HZ.out.cell 3
      have z4 : u1.cell? ⟨gz, 4, none⟩ = some (.int .i64 0) := HZ.out.cell 4
      have z5 : u1.cell? ⟨gz, 5, none⟩ = some (.bool false) := HZ.out.cell 5
      have f0 := HZ.out.frozen 0
      have f1 := HZ.out.frozen 1
      have f2 := HZ.out.frozen 2
      have f3 := HZ.out.frozen 3
      have f4 := HZ.out.frozen 4
      have f5 := HZ.out.frozen 5
      go_wp2_with (first | (go_at_call 50; (with_reducible refine (HN1.out _).mono ?_); rintro e u5 ⟨rfl, hu⟩; rw [← hu]; clear hu) | (go_at_call 50; (with_reducible refine (HN2.out _).mono ?_); rintro e u5 ⟨rfl, hu⟩; rw [← hu]; clear hu))
      have HU : Bk ((((((u1.setCell ⟨gz, 0, none⟩ (.string ⟨#[]⟩)).setCell ⟨gz, 1, none⟩ (.string ⟨#[]⟩)).setCell ⟨gz, 2, none⟩ (.int .i64 0)).setCell ⟨gz, 3, none⟩ (.int .i64 0)).setCell ⟨gz, 4, none⟩ (.int .i64 0)).setCell ⟨gz, 5, none⟩ (.bool false)) gz 32 #[.string ⟨#[]⟩, .string ⟨#[]⟩, .int .i64 0, .int .i64 0, .int .i64 0, .bool false] := HZ.out.set6 _ _ _ _ _ _
      have p0 := HU.cell 0; have p1 := HU.cell 1; have p2 := HU.cell 2; have p3 := HU.cell 3; have p4 := HU.cell 4; have p5 := HU.cell 5
      refine bodyPost_ret (v := .tuple #[.agg #[.string ⟨#[]⟩, .string ⟨#[]⟩, .int .i64 0, .int .i64 0, .int .i64 0, .bool false], .int .i64 1]) ?_ rfl ⟨by rw [HS.out]; rfl, ad, by rw [HS.out]; exact HL.out.set6 (fun y hy => by have := HLZ.out.lt y hy; have := HGZ.out; omega) _ _ _ _ _ _, by rw [HS.out]; exact ⟨ke_set6' (Ke.nil (Ke.of HB.out)) (by rw [HGZ.out]; exact Nat.le_refl _) _ _ _ _ _ _, fun y hy => .inl hy⟩⟩
      try simp [results, Try.f25, go_sem, p0, p1, p2, p3, p4, p5]
    | true =>
      cases a3 with
      | false =>
        have HS := Lib.hid (show R = (zeroLs, 1, b) by rw [← HR.out]; rfl)
        go_enter Try.func25, Try.ntmps25
        go_upto_region 1 with fail
        try rw [hu1]
        try rw [hgz]
        clear hu1 hgz
        have z0 : u1.cell? ⟨gz, 0, none⟩ = some (.string ⟨#[]⟩) := HZ.out.cell 0
        have z1 : u1.cell? ⟨gz, 1, none⟩ = some (.string ⟨#[]⟩) := HZ.out.cell 1
        have z2 : u1.cell? ⟨gz, 2, none⟩ = some (.int .i64 0) := HZ.out.cell 2
        have z3 : u1.cell? ⟨gz, 3, none⟩ = some (.int .i64 0) := HZ.out.cell 3
        have z4 : u1.cell? ⟨gz, 4, none⟩ = some (.int .i64 0) := HZ.out.cell 4
        have z5 : u1.cell? ⟨gz, 5, none⟩ = some (.bool false) := HZ.out.cell 5
        have f0 := HZ.out.frozen 0
        have f1 := HZ.out.frozen 1
        have f2 := HZ.out.frozen 2
        have f3 := HZ.out.frozen 3
        have f4 := HZ.out.frozen 4
        have f5 := HZ.out.frozen 5
        go_wp2_with (first | (go_at_call 50; (with_reducible refine (HN1.out _).mono ?_); rintro e u5 ⟨rfl, hu⟩; rw [← hu]; clear hu) | (go_at_call 50; (with_reducible refine (HN2.out _).mono ?_); rintro e u5 ⟨rfl, hu⟩; rw [← hu]; clear hu) | (go_at_call 35; (with_reducible refine (HM.out _).mono ?_); rintro e u5 ⟨rfl, hu⟩; rw [hu]; clear hu))
        have HU : Bk ((((((u1.setCell ⟨gz, 0, none⟩ (.string ⟨#[]⟩)).setCell ⟨gz, 1, none⟩ (.string ⟨#[]⟩)).setCell ⟨gz, 2, none⟩ (.int .i64 0)).setCell ⟨gz, 3, none⟩ (.int .i64 0)).setCell ⟨gz, 4, none⟩ (.int .i64 0)).setCell ⟨gz, 5, none⟩ (.bool false)) gz 32 #[.string ⟨#[]⟩, .string ⟨#[]⟩, .int .i64 0, .int .i64 0, .int .i64 0, .bool false] := HZ.out.set6 _ _ _ _ _ _
        have p0 := HU.cell 0; have p1 := HU.cell 1; have p2 := HU.cell 2; have p3 := HU.cell 3; have p4 := HU.cell 4; have p5 := HU.cell 5
        refine bodyPost_ret (v := .tuple #[.agg #[.string ⟨#[]⟩, .string ⟨#[]⟩, .int .i64 0, .int .i64 0, .int .i64 0, .bool false], .int .i64 1]) ?_ rfl ⟨by rw [HS.out]; rfl, ad, by rw [HS.out]; exact HL.out.set6 (fun y hy => by have := HLZ.out.lt y hy; have := HGZ.out; omega) _ _ _ _ _ _, by rw [HS.out]; exact ⟨ke_set6' (Ke.nil (Ke.of HB.out)) (by rw [HGZ.out]; exact Nat.le_refl _) _ _ _ _ _ _, fun y hy => .inl hy⟩⟩
        try simp [results, Try.f25, go_sem, p0, p1, p2, p3, p4, p5]
      | true =>
        cases a4 with
        | false =>
          have HS := Lib.hid (show R = (zeroLs, 1, b) by rw [← HR.out]; rfl)
          go_enter Try.func25, Try.ntmps25
          go_upto_region 1 with fail
          try rw [hu1]
          try rw [hgz]
          clear hu1 hgz
          have z0 : u1.cell? ⟨gz, 0, none⟩ = some (.string ⟨#[]⟩) := HZ.out.cell 0
          have z1 : u1.cell? ⟨gz, 1, none⟩ = some (.string ⟨#[]⟩) := HZ.out.cell 1
          have z2 : u1.cell? ⟨gz, 2, none⟩ = some (.int .i64 0) := HZ.out.cell 2
          have z3 : u1.cell? ⟨gz, 3, none⟩ = some (.int .i64 0) := HZ.out.cell 3
          have z4 : u1.cell? ⟨gz, 4, none⟩ = some (.int .i64 0) := HZ.out.cell 4
          have z5 : u1.cell? ⟨gz, 5, none⟩ = some (.bool false) := HZ.out.cell 5
          have f0 := HZ.out.frozen 0
          have f1 := HZ.out.frozen 1
          have f2 := HZ.out.frozen 2
          have f3 := HZ.out.frozen 3
          have f4 := HZ.out.frozen 4
          have f5 := HZ.out.frozen 5
          go_wp2_with (first | (go_at_call 50; (with_reducible refine (HN1.out _).mono ?_); rintro e u5 ⟨rfl, hu⟩; rw [← hu]; clear hu) | (go_at_call 50; (with_reducible refine (HN2.out _).mono ?_); rintro e u5 ⟨rfl, hu⟩; rw [← hu]; clear hu) | (go_at_call 35; (with_reducible refine (HM.out _).mono ?_); rintro e u5 ⟨rfl, hu⟩; rw [hu]; clear hu) | (go_at_call 33; (with_reducible refine (HSP.out _).mono ?_); rintro e u5 ⟨rfl, hu⟩; rw [hu]; clear hu))
          have HU : Bk ((((((u1.setCell ⟨gz, 0, none⟩ (.string ⟨#[]⟩)).setCell ⟨gz, 1, none⟩ (.string ⟨#[]⟩)).setCell ⟨gz, 2, none⟩ (.int .i64 0)).setCell ⟨gz, 3, none⟩ (.int .i64 0)).setCell ⟨gz, 4, none⟩ (.int .i64 0)).setCell ⟨gz, 5, none⟩ (.bool false)) gz 32 #[.string ⟨#[]⟩, .string ⟨#[]⟩, .int .i64 0, .int .i64 0, .int .i64 0, .bool false] := HZ.out.set6 _ _ _ _ _ _
          have p0 := HU.cell 0; have p1 := HU.cell 1; have p2 := HU.cell 2; have p3 := HU.cell 3; have p4 := HU.cell 4; have p5 := HU.cell 5
          refine bodyPost_ret (v := .tuple #[.agg #[.string ⟨#[]⟩, .string ⟨#[]⟩, .int .i64 0, .int .i64 0, .int .i64 0, .bool false], .int .i64 1]) ?_ rfl ⟨by rw [HS.out]; rfl, ad, by rw [HS.out]; exact HL.out.set6 (fun y hy => by have := HLZ.out.lt y hy; have := HGZ.out; omega) _ _ _ _ _ _, by rw [HS.out]; exact ⟨ke_set6' (Ke.nil (Ke.of HB.out)) (by rw [HGZ.out]; exact Nat.le_refl _) _ _ _ _ _ _, fun y hy => .inl hy⟩⟩
          try simp [results, Try.f25, go_sem, p0, p1, p2, p3, p4, p5]
        | true =>
          have hc := HA3.out
          have ht := HA4.out
          unfold clkB at hc
          unfold timB at ht
          simp only [Bool.and_eq_true, decide_eq_true_eq] at hc ht
          obtain ⟨hn1, hn2⟩ := hc
          obtain ⟨ht1, ht2⟩ := ht
          have hm1 := HL.out.ok.m1
          have hm2 := HL.out.ok.m2
          obtain ⟨M, rfl⟩ := Int.eq_ofNat_of_zero_le (show 0 ≤ most by omega)
          obtain ⟨N, rfl⟩ := Int.eq_ofNat_of_zero_le hn1
          obtain ⟨D, rfl⟩ := Int.eq_ofNat_of_zero_le (show 0 ≤ ttl by omega)
          obtain ⟨Q, hQ⟩ : ∃ Q : Nat, min (D : Int) (M : Int) = (Q : Int) := ⟨min D M, by omega⟩
          obtain ⟨S, hS⟩ : ∃ S : Nat, (N : Int) + (Q : Int) = (S : Int) := ⟨N + Q, by omega⟩
          have HQS := Lib.hid (And.intro hQ (And.intro hS (show S ≤ 9223372036854775807 by omega)))
          have HTX := Lib.hid (show TlL (⟨s, ten, conn, b.nx, (S : Int), true⟩ : Ls) from ⟨by show (0 : Int) ≤ (S : Int); omega, by show (S : Int) ≤ _; omega, fun _ => by show (S : Int) ≤ _; omega⟩)
          have HSZ2 := Lib.hid (nameB_size HA2.out)
          have HNX := Lib.hid (show IntKind.i64.wrap (b.nx + 1) = b.nx + 1 by
            have h1 := HL.out.ok.nx
            have h2 := HNX0.out
            obtain ⟨W, hW⟩ := Int.eq_ofNat_of_zero_le (show 0 ≤ b.nx + 1 by omega)
            exact ((iwrap (b.nx + 1) W hW (by omega)).1).trans hW.symm)
          have HRT := Lib.hid (show R = (match fnL s b.l with
              | some y => if (!nmE y.ten ten && (heL y (N : Int) || kpL g y (N : Int))) = true then (zeroLs, 131, b) else if heL y (N : Int) = true then (zeroLs, 4, b) else ((⟨s, ten, conn, b.nx, (S : Int), true⟩ : Ls), 0, (⟨ptL ⟨s, ten, conn, b.nx, (S : Int), true⟩ b.l, b.nx + 1⟩ : Bo))
              | none => if 64 ≤ b.l.length then (zeroLs, 2, b) else ((⟨s, ten, conn, b.nx, (S : Int), true⟩ : Ls), 0, (⟨ptL ⟨s, ten, conn, b.nx, (S : Int), true⟩ b.l, b.nx + 1⟩ : Bo))) by
            rw [← HR.out, if_neg (by simp), hQ, hS]
            rfl)
          clear hn1 hn2 ht1 ht2 hm1 hm2 hQ hS HR
          obtain ⟨nx, hnx⟩ : ∃ nx, b.nx = nx := ⟨_, rfl⟩
          rw [hnx] at HNX HRT HTX
          have HBN := Lib.hid (show b = ⟨b.l, nx⟩ by rw [← hnx])
          have HLB := Lib.hid (show Bk u1 gb 60 (lzc g (M : Int) nx mb) by rw [← hnx]; exact HL.out.blk)
          clear hnx
          cases hf : fnL s b.l with
          | none =>
            have HF := Lib.hid (lfind_none HL.out s (N : Int) HSZ.out.2 hf)
            rw [hf] at HRT
            dsimp only at HRT
            by_cases h64 : 64 ≤ b.l.length
            · have hlen := HL.out.mp.len
              obtain ⟨k, hk⟩ : ∃ k, b.l.length = k := ⟨_, rfl⟩
              have hln : ∀ ty, (Builtin.len_ #[58] ty #[.map (some mb)]).run Try.prog u1 = .ok (.int .i64 (k : Int)) u1 := fun ty => HL.out.mp.len ty k (by rw [List.length_map]; exact hk)
              rw [hk] at h64
              have hk2 : (k : Int) ≥ 64 := by omega
              have hk3 : decide ((64 : Int) ≤ (k : Int)) = true := decide_eq_true (by omega)
              have g3 : u1.cell? ⟨gb, 3, none⟩ = some (.map (some mb)) := HL.out.blk.cell 3
              have HS := Lib.hid (show R = (zeroLs, 2, b) by rw [HRT.out, if_pos (by rw [hk]; exact h64)])
              clear hf hlen hk
              go_enter Try.func25, Try.ntmps25
              go_upto_region 1 with fail
              try rw [hu1]
              try rw [hgz]
              clear hu1 hgz
              have z0 : u1.cell? ⟨gz, 0, none⟩ = some (.string ⟨#[]⟩) := HZ.out.cell 0
              have z1 : u1.cell? ⟨gz, 1, none⟩ = some (.string ⟨#[]⟩) := HZ.out.cell 1
              have z2 : u1.cell? ⟨gz, 2, none⟩ = some (.int .i64 0) := HZ.out.cell 2
              have z3 : u1.cell? ⟨gz, 3, none⟩ = some (.int .i64 0) := HZ.out.cell 3
              have z4 : u1.cell? ⟨gz, 4, none⟩ = some (.int .i64 0) := HZ.out.cell 4
              have z5 : u1.cell? ⟨gz, 5, none⟩ = some (.bool false) := HZ.out.cell 5
              have f0 := HZ.out.frozen 0
              have f1 := HZ.out.frozen 1
              have f2 := HZ.out.frozen 2
              have f3 := HZ.out.frozen 3
              have f4 := HZ.out.frozen 4
              have f5 := HZ.out.frozen 5
              go_wp2_with (first | (go_at_call 50; (with_reducible refine (HN1.out _).mono ?_); rintro e u5 ⟨rfl, hu⟩; rw [← hu]; clear hu) | (go_at_call 50; (with_reducible refine (HN2.out _).mono ?_); rintro e u5 ⟨rfl, hu⟩; rw [← hu]; clear hu) | (go_at_call 35; (with_reducible refine (HM.out _).mono ?_); rintro e u5 ⟨rfl, hu⟩; rw [hu]; clear hu) | (go_at_call 33; (with_reducible refine (HSP.out _).mono ?_); rintro e u5 ⟨rfl, hu⟩; rw [hu]; clear hu) | (go_at_call 51; (with_reducible refine HF.out.mono ?_); rintro e u5 ⟨rfl, hu⟩; rw [hu]; clear hu))
              have HU : Bk ((((((u1.setCell ⟨gz, 0, none⟩ (.string ⟨#[]⟩)).setCell ⟨gz, 1, none⟩ (.string ⟨#[]⟩)).setCell ⟨gz, 2, none⟩ (.int .i64 0)).setCell ⟨gz, 3, none⟩ (.int .i64 0)).setCell ⟨gz, 4, none⟩ (.int .i64 0)).setCell ⟨gz, 5, none⟩ (.bool false)) gz 32 #[.string ⟨#[]⟩, .string ⟨#[]⟩, .int .i64 0, .int .i64 0, .int .i64 0, .bool false] := HZ.out.set6 _ _ _ _ _ _
              have p0 := HU.cell 0; have p1 := HU.cell 1; have p2 := HU.cell 2; have p3 := HU.cell 3; have p4 := HU.cell 4; have p5 := HU.cell 5
              refine bodyPost_ret (v := .tuple #[.agg #[.string ⟨#[]⟩, .string ⟨#[]⟩, .int .i64 0, .int .i64 0, .int .i64 0, .bool false], .int .i64 2]) ?_ rfl ⟨by rw [HS.out]; rfl, ad, by rw [HS.out]; exact HL.out.set6 (fun y hy => by have := HLZ.out.lt y hy; have := HGZ.out; omega) _ _ _ _ _ _, by rw [HS.out]; exact ⟨ke_set6' (Ke.nil (Ke.of HB.out)) (by rw [HGZ.out]; exact Nat.le_refl _) _ _ _ _ _ _, fun y hy => .inl hy⟩⟩
              try simp [results, Try.f25, go_sem, p0, p1, p2, p3, p4, p5]
            · have HFW := Lib.hid (ptL_few (x := ⟨s, ten, conn, nx, (S : Int), true⟩) HL.out.ok.up HL.out.ok.few (fun _ => by omega))
              obtain ⟨k, hk⟩ : ∃ k, b.l.length = k := ⟨_, rfl⟩
              have hln : ∀ ty, (Builtin.len_ #[58] ty #[.map (some mb)]).run Try.prog u1 = .ok (.int .i64 (k : Int)) u1 := fun ty => HL.out.mp.len ty k (by rw [List.length_map]; exact hk)
              rw [hk] at h64
              have hk2 : decide ((k : Int) ≥ 64) = false := decide_eq_false (by omega)
              have hk3 : decide ((64 : Int) ≤ (k : Int)) = false := decide_eq_false (by omega)
              have hk4 : ¬ 64 ≤ k := h64
              have g3 : u1.cell? ⟨gb, 3, none⟩ = some (.map (some mb)) := HL.out.blk.cell 3
              have HS := Lib.hid (show R = ((⟨s, ten, conn, nx, (S : Int), true⟩ : Ls), 0, (⟨ptL ⟨s, ten, conn, nx, (S : Int), true⟩ b.l, nx + 1⟩ : Bo)) by rw [HRT.out, if_neg (by rw [hk]; exact h64)])
              clear hf hk h64
              go_enter Try.func25, Try.ntmps25
              go_upto_region 1 with fail
              try rw [hu1]
              try rw [hgz]
              clear hu1 hgz
              go_upto_region 10 with (first | (go_at_call 50; (with_reducible refine (HN1.out _).mono ?_); rintro e u5 ⟨rfl, hu⟩; rw [← hu]; clear hu) | (go_at_call 50; (with_reducible refine (HN2.out _).mono ?_); rintro e u5 ⟨rfl, hu⟩; rw [← hu]; clear hu) | (go_at_call 35; (with_reducible refine (HM.out _).mono ?_); rintro e u5 ⟨rfl, hu⟩; rw [hu]; clear hu) | (go_at_call 33; (with_reducible refine (HSP.out _).mono ?_); rintro e u5 ⟨rfl, hu⟩; rw [hu]; clear hu) | (go_at_call 51; (with_reducible refine HF.out.mono ?_); rintro e u5 ⟨rfl, hu⟩; rw [hu]; clear hu))
              try simp only [List.cons_append, List.nil_append]
              refine wp_region_held_drew (S := fun wz => Below u1.heap.size u1 wz) (by kernel_rfl) ((Below.refl _ _).drew) (fun hHeld => ?_)
              refine take_at (some 70) (i := 0) (v := ?_) rfl rfl (by kernel_rfl) (by kernel_rfl) (by kernel_rfl) (fun _ _ _ h => h) (Or.inl ⟨by kernel_rfl, ?_⟩) hHeld ?_
              rotate_left
              · intro wz hSw; go_simp; try (with_reducible rfl)
              try simp only [Act.put, List.setIfInBounds_toArray, List.set_cons_zero, List.set_cons_succ, List.getElem_toArray, List.getElem_cons_succ, List.getElem_cons_zero]
              refine take_at (some 72) (i := 2) (v := ?_) rfl rfl (by kernel_rfl) (by kernel_rfl) (by kernel_rfl) (fun _ _ _ h => h) (Or.inl ⟨by kernel_rfl, ?_⟩) hHeld ?_
              rotate_left
              · intro wz hSw; go_simp; try (with_reducible rfl)
              try simp only [Act.put, List.setIfInBounds_toArray, List.set_cons_zero, List.set_cons_succ, List.getElem_toArray, List.getElem_cons_succ, List.getElem_cons_zero]
              refine take_at (some 74) (i := 4) (v := ?_) rfl rfl (by kernel_rfl) (by kernel_rfl) (by kernel_rfl) (fun _ _ _ h => h) (Or.inl ⟨by kernel_rfl, ?_⟩) hHeld ?_
              rotate_left
              · intro wz hSw; go_simp; try (with_reducible rfl)
              try simp only [Act.put, List.setIfInBounds_toArray, List.set_cons_zero, List.set_cons_succ, List.getElem_toArray, List.getElem_cons_succ, List.getElem_cons_zero]
              refine take_at (some 75) (i := 5) (v := ?_) rfl rfl (by kernel_rfl) (by kernel_rfl) (by kernel_rfl) (fun _ _ _ h => h) (Or.inl ⟨by kernel_rfl, ?_⟩) hHeld ?_
              rotate_left
              · intro wz hSw; go_simp; try (with_reducible rfl)
              try simp only [Act.put, List.setIfInBounds_toArray, List.set_cons_zero, List.set_cons_succ, List.getElem_toArray, List.getElem_cons_succ, List.getElem_cons_zero]
              refine take_at (some 76) (i := 6) (v := ?_) rfl rfl (by kernel_rfl) (by kernel_rfl) (by kernel_rfl) (fun _ _ _ h => h) (Or.inl ⟨by kernel_rfl, ?_⟩) hHeld ?_
              rotate_left
              · intro wz hSw; have g2 : wz.cell? ⟨gb, 2, none⟩ = some (.int .i64 nx) := (HLB.out.below hSw HLB.out.lt).cell 2; go_simp; try (with_reducible rfl)
              try simp only [Act.put, List.setIfInBounds_toArray, List.set_cons_zero, List.set_cons_succ, List.getElem_toArray, List.getElem_cons_succ, List.getElem_cons_zero]
              refine take_at (some 77) (i := 7) (v := ?_) rfl rfl (by kernel_rfl) (by kernel_rfl) (by kernel_rfl) (fun _ _ _ h => h) (Or.inl ⟨by kernel_rfl, ?_⟩) hHeld ?_
              rotate_left
              · intro wz hSw; have g2 : wz.cell? ⟨gb, 2, none⟩ = some (.int .i64 nx) := (HLB.out.below hSw HLB.out.lt).cell 2; go_simp; try (with_reducible rfl)
              try simp only [Act.put, List.setIfInBounds_toArray, List.set_cons_zero, List.set_cons_succ, List.getElem_toArray, List.getElem_cons_succ, List.getElem_cons_zero]
              refine take_at (some 78) (i := 8) (v := ?_) rfl rfl (by kernel_rfl) (by kernel_rfl) (by kernel_rfl) (fun _ _ _ h => h) (Or.inl ⟨by kernel_rfl, ?_⟩) hHeld ?_
              rotate_left
              · intro wz hSw; have g2 : wz.cell? ⟨gb, 2, none⟩ = some (.int .i64 nx) := (HLB.out.below hSw HLB.out.lt).cell 2; go_simp; try (with_reducible rfl)
              try simp only [Act.put, List.setIfInBounds_toArray, List.set_cons_zero, List.set_cons_succ, List.getElem_toArray, List.getElem_cons_succ, List.getElem_cons_zero]
              refine take_at (some 79) (i := 9) (v := ?_) rfl rfl (by kernel_rfl) (by kernel_rfl) (by kernel_rfl) (fun _ _ _ h => h) (Or.inl ⟨by kernel_rfl, ?_⟩) hHeld ?_
              rotate_left
              · intro wz hSw; go_simp; try (with_reducible rfl)
              try simp only [Act.put, List.setIfInBounds_toArray, List.set_cons_zero, List.set_cons_succ, List.getElem_toArray, List.getElem_cons_succ, List.getElem_cons_zero]
              refine take_at (some 80) (i := 10) (v := ?_) rfl rfl (by kernel_rfl) (by kernel_rfl) (by kernel_rfl) (fun _ _ _ h => h) (Or.inl ⟨by kernel_rfl, ?_⟩) hHeld ?_
              rotate_left
              · intro wz hSw; go_simp; try (with_reducible rfl)
              try simp only [Act.put, List.setIfInBounds_toArray, List.set_cons_zero, List.set_cons_succ, List.getElem_toArray, List.getElem_cons_succ, List.getElem_cons_zero]
              refine take_at (some 81) (i := 11) (v := ?_) rfl rfl (by kernel_rfl) (by kernel_rfl) (by kernel_rfl) (fun _ _ _ h => h) (Or.inl ⟨by kernel_rfl, ?_⟩) hHeld ?_
              rotate_left
              · intro wz hSw; go_simp; try (with_reducible rfl)
              try simp only [Act.put, List.setIfInBounds_toArray, List.set_cons_zero, List.set_cons_succ, List.getElem_toArray, List.getElem_cons_succ, List.getElem_cons_zero]
              refine wpAnyH_ready (rs := [1]) (by kernel_rfl) (by simp) (AllReadyH.cons rfl (fun K hK => ?_) AllReadyH.nil)
              rw [if_pos (by kernel_rfl)]
              go_simp
              refine (sclone_ok s _ HSZ.out.2).mono ?_
              rintro e x1 ⟨rfl, hb1⟩
              try dsimp only
              have hb1 := ((Below.refl u1.heap.size u1).drew).trans hb1
              refine hK.out _ _ hb1 (fun hHeld => ?_)
              try simp only [Act.put, List.setIfInBounds_toArray, List.set_cons_zero, List.set_cons_succ, List.getElem_toArray, List.getElem_cons_succ, List.getElem_cons_zero]
              refine wpAnyH_ready (rs := [3]) (by kernel_rfl) (by simp) (AllReadyH.cons rfl (fun K hK => ?_) AllReadyH.nil)
              rw [if_pos (by kernel_rfl)]
              go_simp
              refine (sclone_ok ten _ HSZ.out.1).mono ?_
              rintro e x2 ⟨rfl, hb2⟩
              try dsimp only
              have hb2 := hb1.trans (hb2.mono hb1.size)
              refine hK.out _ _ hb2 (fun hHeld => ?_)
              try simp only [Act.put, List.setIfInBounds_toArray, List.set_cons_zero, List.set_cons_succ, List.getElem_toArray, List.getElem_cons_succ, List.getElem_cons_zero]
              refine wpAnyH_ready (rs := [12]) (by kernel_rfl) (by simp) (AllReadyH.cons rfl (fun K hK => ?_) AllReadyH.nil)
              rw [if_pos (by kernel_rfl)]
              go_simp
              refine (luntil_ok x2 gb mb g nx N M D Q S (HLB.out.below hb2 HLB.out.lt) HQS.out.1 HQS.out.2.1 HQS.out.2.2).mono ?_
              rintro e x3 ⟨rfl, hx3⟩
              rw [hx3]
              clear hx3
              try dsimp only
              refine hK.out _ _ hb2 (fun hHeld => ?_)
              try simp only [Act.put, List.setIfInBounds_toArray, List.set_cons_zero, List.set_cons_succ, List.getElem_toArray, List.getElem_cons_succ, List.getElem_cons_zero]
              refine take_at (some 83) (i := 13) (v := ?_) rfl rfl (by kernel_rfl) (by kernel_rfl) (by kernel_rfl) (fun _ _ _ h => h) (Or.inl ⟨by kernel_rfl, ?_⟩) hHeld ?_
              rotate_left
              · intro wz hSw; go_simp; try (with_reducible rfl)
              try simp only [Act.put, List.setIfInBounds_toArray, List.set_cons_zero, List.set_cons_succ, List.getElem_toArray, List.getElem_cons_succ, List.getElem_cons_zero]
              refine wpAnyH_ready (rs := [14]) (by kernel_rfl) (by simp) (AllReadyH.cons rfl (fun K hK => ?_) AllReadyH.nil)
              rw [if_pos (by kernel_rfl)]
              go_simp
              refine hK.out _ _ (hb2.alloc hb2.size _) (fun hHeld => ?_)
              try simp only [Act.put, List.setIfInBounds_toArray, List.set_cons_zero, List.set_cons_succ, List.getElem_toArray, List.getElem_cons_succ, List.getElem_cons_zero]
              refine take_at (some 14) (i := 15) (v := ?_) rfl rfl (by kernel_rfl) (by kernel_rfl) (by kernel_rfl) (fun _ _ _ h => h) (Or.inl ⟨by kernel_rfl, ?_⟩) hHeld ?_
              rotate_left
              · intro wz hSw; go_simp; try (with_reducible rfl)
              try simp only [Act.put, List.setIfInBounds_toArray, List.set_cons_zero, List.set_cons_succ, List.getElem_toArray, List.getElem_cons_succ, List.getElem_cons_zero]
              refine wpAnyH_done (by kernel_rfl) ?_ _
              obtain ⟨nb, hnb⟩ : ∃ nb, x2.heap.size = nb := ⟨_, rfl⟩
              have HNB := Lib.hid (show u1.heap.size ≤ nb by rw [← hnb]; exact hb2.size)
              have hb5 := hb2.alloc hb2.size (.cells #[.string s, .string ten, .int .i64 conn, .int .i64 nx, .int .i64 (S : Int), .bool true] 32)
              have hk5 := Bk.new x2 32 #[.string s, .string ten, .int .i64 conn, .int .i64 nx, .int .i64 (S : Int), .bool true]
              try rw [hnb]
              rw [hnb] at hk5
              clear hnb
              refine gen_ql (fun wz => Below u1.heap.size u1 wz ∧ Bk wz nb 32 #[.string s, .string ten, .int .i64 conn, .int .i64 nx, .int .i64 (S : Int), .bool true]) ⟨hb5, hk5⟩ (fun u5 hq => ?_)
              have HB5 := Lib.hid hq.1
              have HK5 := Lib.hid hq.2
              clear hq hb5 hk5 hb1 hb2 hHeld
              have HL5 := Lib.hid (HL.out.on HB5.out)
              have HZ5 := Lib.hid (HZ.out.below HB5.out HZ.out.lt)
              go_upto_region 11 with fail
              try simp only [List.cons_append, List.nil_append]
              refine wp_region_held_drew (S := fun wz => Bk wz gb 60 (lzc g (M : Int) nx mb) ∧ Bk wz nb 32 #[.string s, .string ten, .int .i64 conn, .int .i64 nx, .int .i64 (S : Int), .bool true]) (by kernel_rfl) (⟨(HLB.out.below HB5.out HLB.out.lt).drew, HK5.out.drew⟩) (fun hHeld => ?_)
              refine take_at (some 85) (i := 0) (v := ?_) rfl rfl (by kernel_rfl) (by kernel_rfl) (by kernel_rfl) (fun _ _ _ h => h) (Or.inl ⟨by kernel_rfl, ?_⟩) hHeld ?_
              rotate_left
              · intro wz hSw; go_simp; try (with_reducible rfl)
              try simp only [Act.put, List.setIfInBounds_toArray, List.set_cons_zero, List.set_cons_succ, List.getElem_toArray, List.getElem_cons_succ, List.getElem_cons_zero]
              refine take_at (some 86) (i := 1) (v := ?_) rfl rfl (by kernel_rfl) (by kernel_rfl) (by kernel_rfl) (fun _ _ _ h => h) (Or.inl ⟨by kernel_rfl, ?_⟩) hHeld ?_
              rotate_left
              · intro wz hSw; have g3 : wz.cell? ⟨gb, 3, none⟩ = some (.map (some mb)) := hSw.1.cell 3; have n0 : wz.cell? ⟨nb, 0, none⟩ = some (.string s) := hSw.2.cell 0; go_simp; try (with_reducible rfl)
              try simp only [Act.put, List.setIfInBounds_toArray, List.set_cons_zero, List.set_cons_succ, List.getElem_toArray, List.getElem_cons_succ, List.getElem_cons_zero]
              refine take_at (some 87) (i := 2) (v := ?_) rfl rfl (by kernel_rfl) (by kernel_rfl) (by kernel_rfl) (fun _ _ _ h => h) (Or.inl ⟨by kernel_rfl, ?_⟩) hHeld ?_
              rotate_left
              · intro wz hSw; have g3 : wz.cell? ⟨gb, 3, none⟩ = some (.map (some mb)) := hSw.1.cell 3; have n0 : wz.cell? ⟨nb, 0, none⟩ = some (.string s) := hSw.2.cell 0; go_simp; try (with_reducible rfl)
              try simp only [Act.put, List.setIfInBounds_toArray, List.set_cons_zero, List.set_cons_succ, List.getElem_toArray, List.getElem_cons_succ, List.getElem_cons_zero]
              refine take_at (some 88) (i := 3) (v := ?_) rfl rfl (by kernel_rfl) (by kernel_rfl) (by kernel_rfl) (fun _ _ _ h => h) (Or.inl ⟨by kernel_rfl, ?_⟩) hHeld ?_
              rotate_left
              · intro wz hSw; have g3 : wz.cell? ⟨gb, 3, none⟩ = some (.map (some mb)) := hSw.1.cell 3; have n0 : wz.cell? ⟨nb, 0, none⟩ = some (.string s) := hSw.2.cell 0; go_simp; try (with_reducible rfl)
              try simp only [Act.put, List.setIfInBounds_toArray, List.set_cons_zero, List.set_cons_succ, List.getElem_toArray, List.getElem_cons_succ, List.getElem_cons_zero]
              refine take_at (some 89) (i := 4) (v := ?_) rfl rfl (by kernel_rfl) (by kernel_rfl) (by kernel_rfl) (fun _ _ _ h => h) (Or.inl ⟨by kernel_rfl, ?_⟩) hHeld ?_
              rotate_left
              · intro wz hSw; go_simp; try (with_reducible rfl)
              try simp only [Act.put, List.setIfInBounds_toArray, List.set_cons_zero, List.set_cons_succ, List.getElem_toArray, List.getElem_cons_succ, List.getElem_cons_zero]
              refine take_at (some 90) (i := 5) (v := ?_) rfl rfl (by kernel_rfl) (by kernel_rfl) (by kernel_rfl) (fun _ _ _ h => h) (Or.inl ⟨by kernel_rfl, ?_⟩) hHeld ?_
              rotate_left
              · intro wz hSw; have g3 : wz.cell? ⟨gb, 3, none⟩ = some (.map (some mb)) := hSw.1.cell 3; have n0 : wz.cell? ⟨nb, 0, none⟩ = some (.string s) := hSw.2.cell 0; go_simp; try (with_reducible rfl)
              try simp only [Act.put, List.setIfInBounds_toArray, List.set_cons_zero, List.set_cons_succ, List.getElem_toArray, List.getElem_cons_succ, List.getElem_cons_zero]
              refine take_at (some 91) (i := 6) (v := ?_) rfl rfl (by kernel_rfl) (by kernel_rfl) (by kernel_rfl) (fun _ _ _ h => h) (Or.inl ⟨by kernel_rfl, ?_⟩) hHeld ?_
              rotate_left
              · intro wz hSw; have g3 : wz.cell? ⟨gb, 3, none⟩ = some (.map (some mb)) := hSw.1.cell 3; have n0 : wz.cell? ⟨nb, 0, none⟩ = some (.string s) := hSw.2.cell 0; go_simp; try (with_reducible rfl)
              try simp only [Act.put, List.setIfInBounds_toArray, List.set_cons_zero, List.set_cons_succ, List.getElem_toArray, List.getElem_cons_succ, List.getElem_cons_zero]
              refine take_at (some 92) (i := 7) (v := ?_) rfl rfl (by kernel_rfl) (by kernel_rfl) (by kernel_rfl) (fun _ _ _ h => h) (Or.inl ⟨by kernel_rfl, ?_⟩) hHeld ?_
              rotate_left
              · intro wz hSw; have g3 : wz.cell? ⟨gb, 3, none⟩ = some (.map (some mb)) := hSw.1.cell 3; have n0 : wz.cell? ⟨nb, 0, none⟩ = some (.string s) := hSw.2.cell 0; go_simp; try (with_reducible rfl)
              try simp only [Act.put, List.setIfInBounds_toArray, List.set_cons_zero, List.set_cons_succ, List.getElem_toArray, List.getElem_cons_succ, List.getElem_cons_zero]
              refine take_at (some 93) (i := 8) (v := ?_) rfl rfl (by kernel_rfl) (by kernel_rfl) (by kernel_rfl) (fun _ _ _ h => h) (Or.inl ⟨by kernel_rfl, ?_⟩) hHeld ?_
              rotate_left
              · intro wz hSw; go_simp; try (with_reducible rfl)
              try simp only [Act.put, List.setIfInBounds_toArray, List.set_cons_zero, List.set_cons_succ, List.getElem_toArray, List.getElem_cons_succ, List.getElem_cons_zero]
              refine wpAnyH_ready (rs := [9]) (by kernel_rfl) (by simp) (AllReadyH.cons rfl (fun K hK => ?_) AllReadyH.nil)
              rw [if_pos (by kernel_rfl)]
              refine op_lstore (.tmp 88) (.tmp 92) (.tmp 93) rfl mb _ s nb rfl rfl rfl (HL5.out.mp.ke (Ke.refl [] u5).drew (fun hm => by cases hm)) (by have h1 := List.length_filter_le (fun y : ByteArray × Nat => !nmE y.1 s) (b.l.map fun x => (x.name, ad x.name)); have h2 := HL.out.ok.few; unfold outK; rw [List.length_map] at h1; omega) HSZ.out.2 ?_
              intro w6 hm6 hk6
              have hkm : ∀ k t cs, Bk u5 k t cs → Bk w6 k t cs := fun k t cs hk => hk.drew.ke hk6 (fun hm => by
                rw [List.mem_singleton.1 hm] at hk
                obtain ⟨es, ck, hq⟩ := HL5.out.mp.block
                have h3 : u5.heap[mb]? = some (.cells cs t (0, 0)) := hk
                rw [h3] at hq
                cases hq)
              refine hK.out _ _ ⟨hkm _ _ _ (HLB.out.below HB5.out HLB.out.lt), hkm _ _ _ HK5.out⟩ (fun hHeld => ?_)
              try simp only [Act.put, List.setIfInBounds_toArray, List.set_cons_zero, List.set_cons_succ, List.getElem_toArray, List.getElem_cons_succ, List.getElem_cons_zero]
              refine wpAnyH_done (by kernel_rfl) ?_ _
              have HK6 := Lib.hid (show Ke [mb] u5 w6 from ((Ke.refl [mb] u5).drew).trans hk6)
              have HM6 := Lib.hid hm6
              have HG6 := Lib.hid (hkm _ _ _ (HLB.out.below HB5.out HLB.out.lt))
              have HN6 := Lib.hid (hkm _ _ _ HK5.out)
              have HZ6 := Lib.hid (hkm _ _ _ HZ5.out)
              clear hm6 hk6 hkm hHeld
              have g2 : w6.cell? ⟨gb, 2, none⟩ = some (.int .i64 nx) := HG6.out.cell 2
              have g2f := HG6.out.frozen 2
              have hnx1 := HNX.out
              go_upto_region 13 with fail
              obtain ⟨u7, hu7⟩ : ∃ u7, w6.setCell ⟨gb, 2, none⟩ (.int .i64 (nx + 1)) = u7 := ⟨_, rfl⟩
              have HGB := Lib.hid (show nb ≠ gb ∧ gz ≠ gb ∧ mb ≠ gb ∧ gz ≠ nb from ⟨HN6.out.apart HG6.out (by decide), HZ6.out.apart HG6.out (by decide), HL.out.mapBook, by have := HNB.out; have := HZ.out.lt; omega⟩)
              have HG7 := Lib.hid (show Bk u7 gb 60 (lzc g (M : Int) (nx + 1) mb) by rw [← hu7]; simpa only [List.setIfInBounds_toArray, List.set_cons_zero, List.set_cons_succ] using HG6.out.set 2 (.int .i64 (nx + 1)))
              have HN7 := Lib.hid (show Bk u7 nb 32 #[.string s, .string ten, .int .i64 conn, .int .i64 nx, .int .i64 (S : Int), .bool true] by rw [← hu7]; exact HN6.out.far (p := ⟨gb, 2, none⟩) HGB.out.1 _)
              have HZ7 := Lib.hid (show Bk u7 gz 32 #[.string ⟨#[]⟩, .string ⟨#[]⟩, .int .i64 0, .int .i64 0, .int .i64 0, .bool false] by rw [← hu7]; exact HZ6.out.far (p := ⟨gb, 2, none⟩) HGB.out.2.1 _)
              have HK67 := Lib.hid (show Ke [gb] w6 u7 by rw [← hu7]; exact (Ke.refl [gb] w6).set (p := ⟨gb, 2, none⟩) (List.mem_singleton.2 rfl) _)
              have HM7 := Lib.hid (HM6.out.ke HK67.out (fun hm => HGB.out.2.2.1 (List.mem_singleton.1 hm)))
              have HK57 := Lib.hid (show Ke [gb, mb] u5 u7 from (HK6.out.more (fun y hy => List.mem_cons_of_mem _ hy)).trans (HK67.out.more (fun y hy => by rw [List.mem_singleton.1 hy]; exact List.mem_cons_self ..)))
              have HZP := Lib.hid (HL5.out.put (x := ⟨s, ten, conn, nx, (S : Int), true⟩) (a := nb) (n := nx + 1) HK57.out HG7.out HN7.out HM7.out HFW.out HSZ2.out HTX.out (by have := HL.out.ok.nx; rw [HBN.out] at this; dsimp only at this; omega))
              have HFP := Lib.hid (ft_put (gb := gb) (mb := mb) (ad := ad) (b := b) HL.out.ok.up (x := ⟨s, ten, conn, nx, (S : Int), true⟩) (a := nb) (n := nx + 1))
              try rw [hu7]
              clear hu7 g2 g2f hnx1
              have x0 : u7.cell? ⟨nb, 0, none⟩ = some (.string s) := HN7.out.cell 0
              have x1 : u7.cell? ⟨nb, 1, none⟩ = some (.string ten) := HN7.out.cell 1
              have x2 : u7.cell? ⟨nb, 2, none⟩ = some (.int .i64 conn) := HN7.out.cell 2
              have x3 : u7.cell? ⟨nb, 3, none⟩ = some (.int .i64 nx) := HN7.out.cell 3
              have x4 : u7.cell? ⟨nb, 4, none⟩ = some (.int .i64 (S : Int)) := HN7.out.cell 4
              have x5 : u7.cell? ⟨nb, 5, none⟩ = some (.bool true) := HN7.out.cell 5
              have k0 := HN7.out.frozen 0
              have k1 := HN7.out.frozen 1
              have k2 := HN7.out.frozen 2
              have k3 := HN7.out.frozen 3
              have k4 := HN7.out.frozen 4
              have k5 := HN7.out.frozen 5
              have z0 : u7.cell? ⟨gz, 0, none⟩ = some (.string ⟨#[]⟩) := HZ7.out.cell 0
              have z1 : u7.cell? ⟨gz, 1, none⟩ = some (.string ⟨#[]⟩) := HZ7.out.cell 1
              have z2 : u7.cell? ⟨gz, 2, none⟩ = some (.int .i64 0) := HZ7.out.cell 2
              have z3 : u7.cell? ⟨gz, 3, none⟩ = some (.int .i64 0) := HZ7.out.cell 3
              have z4 : u7.cell? ⟨gz, 4, none⟩ = some (.int .i64 0) := HZ7.out.cell 4
              have z5 : u7.cell? ⟨gz, 5, none⟩ = some (.bool false) := HZ7.out.cell 5
              have f0 := HZ7.out.frozen 0
              have f1 := HZ7.out.frozen 1
              have f2 := HZ7.out.frozen 2
              have f3 := HZ7.out.frozen 3
              have f4 := HZ7.out.frozen 4
              have f5 := HZ7.out.frozen 5
              go_wp2
              have HU : Bk ((((((u7.setCell ⟨gz, 0, none⟩ (.string s)).setCell ⟨gz, 1, none⟩ (.string ten)).setCell ⟨gz, 2, none⟩ (.int .i64 conn)).setCell ⟨gz, 3, none⟩ (.int .i64 nx)).setCell ⟨gz, 4, none⟩ (.int .i64 (S : Int))).setCell ⟨gz, 5, none⟩ (.bool true)) gz 32 #[.string s, .string ten, .int .i64 conn, .int .i64 nx, .int .i64 (S : Int), .bool true] := HZ7.out.set6 _ _ _ _ _ _
              have p0 := HU.cell 0; have p1 := HU.cell 1; have p2 := HU.cell 2; have p3 := HU.cell 3; have p4 := HU.cell 4; have p5 := HU.cell 5
              refine bodyPost_ret (v := .tuple #[.agg #[.string s, .string ten, .int .i64 conn, .int .i64 nx, .int .i64 (S : Int), .bool true], .int .i64 0]) ?_ rfl ⟨by rw [HS.out]; try rfl, _, by rw [HS.out]; exact HZP.out.set6 (fun y hy => by rcases HFP.out y hy with h1 | h1; (have := HLZ.out.lt y h1; have := HGZ.out; omega); (have := HGB.out.2.2.2; omega)) _ _ _ _ _ _, by rw [HS.out]; exact ⟨ke_set6' (((Ke.nil (Ke.of (HB.out.trans (HB5.out.mono HB.out.size))))).trans (HK57.out.more (fun y hy => by rcases List.mem_cons.1 hy with e | e; (rw [e]; exact mem_ftL.2 (.inl rfl)); (rw [List.mem_singleton.1 e]; exact mem_ftL.2 (.inr (.inl rfl)))))) (by rw [HGZ.out]; exact Nat.le_refl _) _ _ _ _ _ _, fun y hy => by rcases HFP.out y hy with h1 | h1; (exact .inl h1); (right; have := HNB.out; have := HB.out.size; omega)⟩⟩
              try simp [results, Try.f25, go_sem, p0, p1, p2, p3, p4, p5]
          | some x =>
            have HF := Lib.hid (lfind_some HL.out s (N : Int) x hf)
            obtain ⟨he, hxm⟩ := fn_name hf
            have HFW := Lib.hid (ptL_few (x := ⟨s, ten, conn, nx, (S : Int), true⟩) HL.out.ok.up HL.out.ok.few (fun hh => by rw [show (⟨s, ten, conn, nx, (S : Int), true⟩ : Ls).name = s from rfl, hf] at hh; cases hh))
            rw [hf] at HRT
            dsimp only at HRT
            have HX := Lib.hid (HL.out.each x hxm)
            rw [he] at HX
            have h3 := st_three g x (N : Int)
            obtain ⟨c1, c2⟩ := claim_st (g := g) (x := x) (now := (N : Int))
            rw [c1, c2] at HRT
            obtain ⟨st, hst⟩ : ∃ st, stI g x (N : Int) = st := ⟨_, rfl⟩
            rw [hst] at HF HRT h3
            have x1 : u1.cell? ⟨ad s, 1, none⟩ = some (.string x.ten) := HX.out.cell 1
            obtain ⟨ax, hax⟩ : ∃ ax, ad s = ax := ⟨_, rfl⟩
            rw [hax] at HF x1
            obtain ⟨xt, hxt⟩ : ∃ xt, x.ten = xt := ⟨_, rfl⟩
            rw [hxt] at x1 HRT
            obtain ⟨q, hq⟩ : ∃ q, (xt.toList == ten.toList) = q := ⟨_, rfl⟩
            have hq2 : (xt.toList != ten.toList) = !q := by rw [bne, hq]
            have HQ := Lib.hid (show nmE xt ten = q from hq)
            rw [HQ.out] at HRT
            clear hf he hxm c1 c2 hst hax hxt HX
            rcases h3 with rfl | rfl | rfl
            · have HS := Lib.hid (show R = ((⟨s, ten, conn, nx, (S : Int), true⟩ : Ls), 0, (⟨ptL ⟨s, ten, conn, nx, (S : Int), true⟩ b.l, nx + 1⟩ : Bo)) by rw [HRT.out]; cases q <;> rfl)
              clear x1 hq hq2
              go_enter Try.func25, Try.ntmps25
              go_upto_region 1 with fail
              try rw [hu1]
              try rw [hgz]
              clear hu1 hgz
              go_upto_region 10 with (first | (go_at_call 50; (with_reducible refine (HN1.out _).mono ?_); rintro e u5 ⟨rfl, hu⟩; rw [← hu]; clear hu) | (go_at_call 50; (with_reducible refine (HN2.out _).mono ?_); rintro e u5 ⟨rfl, hu⟩; rw [← hu]; clear hu) | (go_at_call 35; (with_reducible refine (HM.out _).mono ?_); rintro e u5 ⟨rfl, hu⟩; rw [hu]; clear hu) | (go_at_call 33; (with_reducible refine (HSP.out _).mono ?_); rintro e u5 ⟨rfl, hu⟩; rw [hu]; clear hu) | (go_at_call 51; (with_reducible refine HF.out.mono ?_); rintro e u5 ⟨rfl, hu⟩; rw [hu]; clear hu))
              try simp only [List.cons_append, List.nil_append]
              refine wp_region_held_drew (S := fun wz => Below u1.heap.size u1 wz) (by kernel_rfl) ((Below.refl _ _).drew) (fun hHeld => ?_)
              refine take_at (some 70) (i := 0) (v := ?_) rfl rfl (by kernel_rfl) (by kernel_rfl) (by kernel_rfl) (fun _ _ _ h => h) (Or.inl ⟨by kernel_rfl, ?_⟩) hHeld ?_
              rotate_left
              · intro wz hSw; go_simp; try (with_reducible rfl)
              try simp only [Act.put, List.setIfInBounds_toArray, List.set_cons_zero, List.set_cons_succ, List.getElem_toArray, List.getElem_cons_succ, List.getElem_cons_zero]
              refine take_at (some 72) (i := 2) (v := ?_) rfl rfl (by kernel_rfl) (by kernel_rfl) (by kernel_rfl) (fun _ _ _ h => h) (Or.inl ⟨by kernel_rfl, ?_⟩) hHeld ?_
              rotate_left
              · intro wz hSw; go_simp; try (with_reducible rfl)
              try simp only [Act.put, List.setIfInBounds_toArray, List.set_cons_zero, List.set_cons_succ, List.getElem_toArray, List.getElem_cons_succ, List.getElem_cons_zero]
              refine take_at (some 74) (i := 4) (v := ?_) rfl rfl (by kernel_rfl) (by kernel_rfl) (by kernel_rfl) (fun _ _ _ h => h) (Or.inl ⟨by kernel_rfl, ?_⟩) hHeld ?_
              rotate_left
              · intro wz hSw; go_simp; try (with_reducible rfl)
              try simp only [Act.put, List.setIfInBounds_toArray, List.set_cons_zero, List.set_cons_succ, List.getElem_toArray, List.getElem_cons_succ, List.getElem_cons_zero]
              refine take_at (some 75) (i := 5) (v := ?_) rfl rfl (by kernel_rfl) (by kernel_rfl) (by kernel_rfl) (fun _ _ _ h => h) (Or.inl ⟨by kernel_rfl, ?_⟩) hHeld ?_
              rotate_left
              · intro wz hSw; go_simp; try (with_reducible rfl)
              try simp only [Act.put, List.setIfInBounds_toArray, List.set_cons_zero, List.set_cons_succ, List.getElem_toArray, List.getElem_cons_succ, List.getElem_cons_zero]
              refine take_at (some 76) (i := 6) (v := ?_) rfl rfl (by kernel_rfl) (by kernel_rfl) (by kernel_rfl) (fun _ _ _ h => h) (Or.inl ⟨by kernel_rfl, ?_⟩) hHeld ?_
              rotate_left
              · intro wz hSw; have g2 : wz.cell? ⟨gb, 2, none⟩ = some (.int .i64 nx) := (HLB.out.below hSw HLB.out.lt).cell 2; go_simp; try (with_reducible rfl)
              try simp only [Act.put, List.setIfInBounds_toArray, List.set_cons_zero, List.set_cons_succ, List.getElem_toArray, List.getElem_cons_succ, List.getElem_cons_zero]
              refine take_at (some 77) (i := 7) (v := ?_) rfl rfl (by kernel_rfl) (by kernel_rfl) (by kernel_rfl) (fun _ _ _ h => h) (Or.inl ⟨by kernel_rfl, ?_⟩) hHeld ?_
              rotate_left
              · intro wz hSw; have g2 : wz.cell? ⟨gb, 2, none⟩ = some (.int .i64 nx) := (HLB.out.below hSw HLB.out.lt).cell 2; go_simp; try (with_reducible rfl)
              try simp only [Act.put, List.setIfInBounds_toArray, List.set_cons_zero, List.set_cons_succ, List.getElem_toArray, List.getElem_cons_succ, List.getElem_cons_zero]
              refine take_at (some 78) (i := 8) (v := ?_) rfl rfl (by kernel_rfl) (by kernel_rfl) (by kernel_rfl) (fun _ _ _ h => h) (Or.inl ⟨by kernel_rfl, ?_⟩) hHeld ?_
              rotate_left
              · intro wz hSw; have g2 : wz.cell? ⟨gb, 2, none⟩ = some (.int .i64 nx) := (HLB.out.below hSw HLB.out.lt).cell 2; go_simp; try (with_reducible rfl)
              try simp only [Act.put, List.setIfInBounds_toArray, List.set_cons_zero, List.set_cons_succ, List.getElem_toArray, List.getElem_cons_succ, List.getElem_cons_zero]
              refine take_at (some 79) (i := 9) (v := ?_) rfl rfl (by kernel_rfl) (by kernel_rfl) (by kernel_rfl) (fun _ _ _ h => h) (Or.inl ⟨by kernel_rfl, ?_⟩) hHeld ?_
              rotate_left
              · intro wz hSw; go_simp; try (with_reducible rfl)
              try simp only [Act.put, List.setIfInBounds_toArray, List.set_cons_zero, List.set_cons_succ, List.getElem_toArray, List.getElem_cons_succ, List.getElem_cons_zero]
              refine take_at (some 80) (i := 10) (v := ?_) rfl rfl (by kernel_rfl) (by kernel_rfl) (by kernel_rfl) (fun _ _ _ h => h) (Or.inl ⟨by kernel_rfl, ?_⟩) hHeld ?_
              rotate_left
              · intro wz hSw; go_simp; try (with_reducible rfl)
              try simp only [Act.put, List.setIfInBounds_toArray, List.set_cons_zero, List.set_cons_succ, List.getElem_toArray, List.getElem_cons_succ, List.getElem_cons_zero]
              refine take_at (some 81) (i := 11) (v := ?_) rfl rfl (by kernel_rfl) (by kernel_rfl) (by kernel_rfl) (fun _ _ _ h => h) (Or.inl ⟨by kernel_rfl, ?_⟩) hHeld ?_
              rotate_left
              · intro wz hSw; go_simp; try (with_reducible rfl)
              try simp only [Act.put, List.setIfInBounds_toArray, List.set_cons_zero, List.set_cons_succ, List.getElem_toArray, List.getElem_cons_succ, List.getElem_cons_zero]
              refine wpAnyH_ready (rs := [1]) (by kernel_rfl) (by simp) (AllReadyH.cons rfl (fun K hK => ?_) AllReadyH.nil)
              rw [if_pos (by kernel_rfl)]
              go_simp
              refine (sclone_ok s _ HSZ.out.2).mono ?_
              rintro e x1 ⟨rfl, hb1⟩
              try dsimp only
              have hb1 := ((Below.refl u1.heap.size u1).drew).trans hb1
              refine hK.out _ _ hb1 (fun hHeld => ?_)
              try simp only [Act.put, List.setIfInBounds_toArray, List.set_cons_zero, List.set_cons_succ, List.getElem_toArray, List.getElem_cons_succ, List.getElem_cons_zero]
              refine wpAnyH_ready (rs := [3]) (by kernel_rfl) (by simp) (AllReadyH.cons rfl (fun K hK => ?_) AllReadyH.nil)
              rw [if_pos (by kernel_rfl)]
              go_simp
              refine (sclone_ok ten _ HSZ.out.1).mono ?_
              rintro e x2 ⟨rfl, hb2⟩
              try dsimp only
              have hb2 := hb1.trans (hb2.mono hb1.size)
              refine hK.out _ _ hb2 (fun hHeld => ?_)
              try simp only [Act.put, List.setIfInBounds_toArray, List.set_cons_zero, List.set_cons_succ, List.getElem_toArray, List.getElem_cons_succ, List.getElem_cons_zero]
              refine wpAnyH_ready (rs := [12]) (by kernel_rfl) (by simp) (AllReadyH.cons rfl (fun K hK => ?_) AllReadyH.nil)
              rw [if_pos (by kernel_rfl)]
              go_simp
              refine (luntil_ok x2 gb mb g nx N M D Q S (HLB.out.below hb2 HLB.out.lt) HQS.out.1 HQS.out.2.1 HQS.out.2.2).mono ?_
              rintro e x3 ⟨rfl, hx3⟩
              rw [hx3]
              clear hx3
              try dsimp only
              refine hK.out _ _ hb2 (fun hHeld => ?_)
              try simp only [Act.put, List.setIfInBounds_toArray, List.set_cons_zero, List.set_cons_succ, List.getElem_toArray, List.getElem_cons_succ, List.getElem_cons_zero]
              refine take_at (some 83) (i := 13) (v := ?_) rfl rfl (by kernel_rfl) (by kernel_rfl) (by kernel_rfl) (fun _ _ _ h => h) (Or.inl ⟨by kernel_rfl, ?_⟩) hHeld ?_
              rotate_left
              · intro wz hSw; go_simp; try (with_reducible rfl)
              try simp only [Act.put, List.setIfInBounds_toArray, List.set_cons_zero, List.set_cons_succ, List.getElem_toArray, List.getElem_cons_succ, List.getElem_cons_zero]
              refine wpAnyH_ready (rs := [14]) (by kernel_rfl) (by simp) (AllReadyH.cons rfl (fun K hK => ?_) AllReadyH.nil)
              rw [if_pos (by kernel_rfl)]
              go_simp
              refine hK.out _ _ (hb2.alloc hb2.size _) (fun hHeld => ?_)
              try simp only [Act.put, List.setIfInBounds_toArray, List.set_cons_zero, List.set_cons_succ, List.getElem_toArray, List.getElem_cons_succ, List.getElem_cons_zero]
              refine take_at (some 14) (i := 15) (v := ?_) rfl rfl (by kernel_rfl) (by kernel_rfl) (by kernel_rfl) (fun _ _ _ h => h) (Or.inl ⟨by kernel_rfl, ?_⟩) hHeld ?_
              rotate_left
              · intro wz hSw; go_simp; try (with_reducible rfl)
              try simp only [Act.put, List.setIfInBounds_toArray, List.set_cons_zero, List.set_cons_succ, List.getElem_toArray, List.getElem_cons_succ, List.getElem_cons_zero]
              refine wpAnyH_done (by kernel_rfl) ?_ _
              obtain ⟨nb, hnb⟩ : ∃ nb, x2.heap.size = nb := ⟨_, rfl⟩
              have HNB := Lib.hid (show u1.heap.size ≤ nb by rw [← hnb]; exact hb2.size)
              have hb5 := hb2.alloc hb2.size (.cells #[.string s, .string ten, .int .i64 conn, .int .i64 nx, .int .i64 (S : Int), .bool true] 32)
              have hk5 := Bk.new x2 32 #[.string s, .string ten, .int .i64 conn, .int .i64 nx, .int .i64 (S : Int), .bool true]
              try rw [hnb]
              rw [hnb] at hk5
              clear hnb
              refine gen_ql (fun wz => Below u1.heap.size u1 wz ∧ Bk wz nb 32 #[.string s, .string ten, .int .i64 conn, .int .i64 nx, .int .i64 (S : Int), .bool true]) ⟨hb5, hk5⟩ (fun u5 hq => ?_)
              have HB5 := Lib.hid hq.1
              have HK5 := Lib.hid hq.2
              clear hq hb5 hk5 hb1 hb2 hHeld
              have HL5 := Lib.hid (HL.out.on HB5.out)
              have HZ5 := Lib.hid (HZ.out.below HB5.out HZ.out.lt)
              go_upto_region 11 with fail
              try simp only [List.cons_append, List.nil_append]
              refine wp_region_held_drew (S := fun wz => Bk wz gb 60 (lzc g (M : Int) nx mb) ∧ Bk wz nb 32 #[.string s, .string ten, .int .i64 conn, .int .i64 nx, .int .i64 (S : Int), .bool true]) (by kernel_rfl) (⟨(HLB.out.below HB5.out HLB.out.lt).drew, HK5.out.drew⟩) (fun hHeld => ?_)
              refine take_at (some 85) (i := 0) (v := ?_) rfl rfl (by kernel_rfl) (by kernel_rfl) (by kernel_rfl) (fun _ _ _ h => h) (Or.inl ⟨by kernel_rfl, ?_⟩) hHeld ?_
              rotate_left
              · intro wz hSw; go_simp; try (with_reducible rfl)
              try simp only [Act.put, List.setIfInBounds_toArray, List.set_cons_zero, List.set_cons_succ, List.getElem_toArray, List.getElem_cons_succ, List.getElem_cons_zero]
              refine take_at (some 86) (i := 1) (v := ?_) rfl rfl (by kernel_rfl) (by kernel_rfl) (by kernel_rfl) (fun _ _ _ h => h) (Or.inl ⟨by kernel_rfl, ?_⟩) hHeld ?_
              rotate_left
              · intro wz hSw; have g3 : wz.cell? ⟨gb, 3, none⟩ = some (.map (some mb)) := hSw.1.cell 3; have n0 : wz.cell? ⟨nb, 0, none⟩ = some (.string s) := hSw.2.cell 0; go_simp; try (with_reducible rfl)
              try simp only [Act.put, List.setIfInBounds_toArray, List.set_cons_zero, List.set_cons_succ, List.getElem_toArray, List.getElem_cons_succ, List.getElem_cons_zero]
              refine take_at (some 87) (i := 2) (v := ?_) rfl rfl (by kernel_rfl) (by kernel_rfl) (by kernel_rfl) (fun _ _ _ h => h) (Or.inl ⟨by kernel_rfl, ?_⟩) hHeld ?_
              rotate_left
              · intro wz hSw; have g3 : wz.cell? ⟨gb, 3, none⟩ = some (.map (some mb)) := hSw.1.cell 3; have n0 : wz.cell? ⟨nb, 0, none⟩ = some (.string s) := hSw.2.cell 0; go_simp; try (with_reducible rfl)
              try simp only [Act.put, List.setIfInBounds_toArray, List.set_cons_zero, List.set_cons_succ, List.getElem_toArray, List.getElem_cons_succ, List.getElem_cons_zero]
              refine take_at (some 88) (i := 3) (v := ?_) rfl rfl (by kernel_rfl) (by kernel_rfl) (by kernel_rfl) (fun _ _ _ h => h) (Or.inl ⟨by kernel_rfl, ?_⟩) hHeld ?_
              rotate_left
              · intro wz hSw; have g3 : wz.cell? ⟨gb, 3, none⟩ = some (.map (some mb)) := hSw.1.cell 3; have n0 : wz.cell? ⟨nb, 0, none⟩ = some (.string s) := hSw.2.cell 0; go_simp; try (with_reducible rfl)
              try simp only [Act.put, List.setIfInBounds_toArray, List.set_cons_zero, List.set_cons_succ, List.getElem_toArray, List.getElem_cons_succ, List.getElem_cons_zero]
              refine take_at (some 89) (i := 4) (v := ?_) rfl rfl (by kernel_rfl) (by kernel_rfl) (by kernel_rfl) (fun _ _ _ h => h) (Or.inl ⟨by kernel_rfl, ?_⟩) hHeld ?_
              rotate_left
              · intro wz hSw; go_simp; try (with_reducible rfl)
              try simp only [Act.put, List.setIfInBounds_toArray, List.set_cons_zero, List.set_cons_succ, List.getElem_toArray, List.getElem_cons_succ, List.getElem_cons_zero]
              refine take_at (some 90) (i := 5) (v := ?_) rfl rfl (by kernel_rfl) (by kernel_rfl) (by kernel_rfl) (fun _ _ _ h => h) (Or.inl ⟨by kernel_rfl, ?_⟩) hHeld ?_
              rotate_left
              · intro wz hSw; have g3 : wz.cell? ⟨gb, 3, none⟩ = some (.map (some mb)) := hSw.1.cell 3; have n0 : wz.cell? ⟨nb, 0, none⟩ = some (.string s) := hSw.2.cell 0; go_simp; try (with_reducible rfl)
              try simp only [Act.put, List.setIfInBounds_toArray, List.set_cons_zero, List.set_cons_succ, List.getElem_toArray, List.getElem_cons_succ, List.getElem_cons_zero]
              refine take_at (some 91) (i := 6) (v := ?_) rfl rfl (by kernel_rfl) (by kernel_rfl) (by kernel_rfl) (fun _ _ _ h => h) (Or.inl ⟨by kernel_rfl, ?_⟩) hHeld ?_
              rotate_left
              · intro wz hSw; have g3 : wz.cell? ⟨gb, 3, none⟩ = some (.map (some mb)) := hSw.1.cell 3; have n0 : wz.cell? ⟨nb, 0, none⟩ = some (.string s) := hSw.2.cell 0; go_simp; try (with_reducible rfl)
              try simp only [Act.put, List.setIfInBounds_toArray, List.set_cons_zero, List.set_cons_succ, List.getElem_toArray, List.getElem_cons_succ, List.getElem_cons_zero]
              refine take_at (some 92) (i := 7) (v := ?_) rfl rfl (by kernel_rfl) (by kernel_rfl) (by kernel_rfl) (fun _ _ _ h => h) (Or.inl ⟨by kernel_rfl, ?_⟩) hHeld ?_
              rotate_left
              · intro wz hSw; have g3 : wz.cell? ⟨gb, 3, none⟩ = some (.map (some mb)) := hSw.1.cell 3; have n0 : wz.cell? ⟨nb, 0, none⟩ = some (.string s) := hSw.2.cell 0; go_simp; try (with_reducible rfl)
              try simp only [Act.put, List.setIfInBounds_toArray, List.set_cons_zero, List.set_cons_succ, List.getElem_toArray, List.getElem_cons_succ, List.getElem_cons_zero]
              refine take_at (some 93) (i := 8) (v := ?_) rfl rfl (by kernel_rfl) (by kernel_rfl) (by kernel_rfl) (fun _ _ _ h => h) (Or.inl ⟨by kernel_rfl, ?_⟩) hHeld ?_
              rotate_left
              · intro wz hSw; go_simp; try (with_reducible rfl)
              try simp only [Act.put, List.setIfInBounds_toArray, List.set_cons_zero, List.set_cons_succ, List.getElem_toArray, List.getElem_cons_succ, List.getElem_cons_zero]
              refine wpAnyH_ready (rs := [9]) (by kernel_rfl) (by simp) (AllReadyH.cons rfl (fun K hK => ?_) AllReadyH.nil)
              rw [if_pos (by kernel_rfl)]
              refine op_lstore (.tmp 88) (.tmp 92) (.tmp 93) rfl mb _ s nb rfl rfl rfl (HL5.out.mp.ke (Ke.refl [] u5).drew (fun hm => by cases hm)) (by have h1 := List.length_filter_le (fun y : ByteArray × Nat => !nmE y.1 s) (b.l.map fun x => (x.name, ad x.name)); have h2 := HL.out.ok.few; unfold outK; rw [List.length_map] at h1; omega) HSZ.out.2 ?_
              intro w6 hm6 hk6
              have hkm : ∀ k t cs, Bk u5 k t cs → Bk w6 k t cs := fun k t cs hk => hk.drew.ke hk6 (fun hm => by
                rw [List.mem_singleton.1 hm] at hk
                obtain ⟨es, ck, hq⟩ := HL5.out.mp.block
                have h3 : u5.heap[mb]? = some (.cells cs t (0, 0)) := hk
                rw [h3] at hq
                cases hq)
              refine hK.out _ _ ⟨hkm _ _ _ (HLB.out.below HB5.out HLB.out.lt), hkm _ _ _ HK5.out⟩ (fun hHeld => ?_)
              try simp only [Act.put, List.setIfInBounds_toArray, List.set_cons_zero, List.set_cons_succ, List.getElem_toArray, List.getElem_cons_succ, List.getElem_cons_zero]
              refine wpAnyH_done (by kernel_rfl) ?_ _
              have HK6 := Lib.hid (show Ke [mb] u5 w6 from ((Ke.refl [mb] u5).drew).trans hk6)
              have HM6 := Lib.hid hm6
              have HG6 := Lib.hid (hkm _ _ _ (HLB.out.below HB5.out HLB.out.lt))
              have HN6 := Lib.hid (hkm _ _ _ HK5.out)
              have HZ6 := Lib.hid (hkm _ _ _ HZ5.out)
              clear hm6 hk6 hkm hHeld
              have g2 : w6.cell? ⟨gb, 2, none⟩ = some (.int .i64 nx) := HG6.out.cell 2
              have g2f := HG6.out.frozen 2
              have hnx1 := HNX.out
              go_upto_region 13 with fail
              obtain ⟨u7, hu7⟩ : ∃ u7, w6.setCell ⟨gb, 2, none⟩ (.int .i64 (nx + 1)) = u7 := ⟨_, rfl⟩
              have HGB := Lib.hid (show nb ≠ gb ∧ gz ≠ gb ∧ mb ≠ gb ∧ gz ≠ nb from ⟨HN6.out.apart HG6.out (by decide), HZ6.out.apart HG6.out (by decide), HL.out.mapBook, by have := HNB.out; have := HZ.out.lt; omega⟩)
              have HG7 := Lib.hid (show Bk u7 gb 60 (lzc g (M : Int) (nx + 1) mb) by rw [← hu7]; simpa only [List.setIfInBounds_toArray, List.set_cons_zero, List.set_cons_succ] using HG6.out.set 2 (.int .i64 (nx + 1)))
              have HN7 := Lib.hid (show Bk u7 nb 32 #[.string s, .string ten, .int .i64 conn, .int .i64 nx, .int .i64 (S : Int), .bool true] by rw [← hu7]; exact HN6.out.far (p := ⟨gb, 2, none⟩) HGB.out.1 _)
              have HZ7 := Lib.hid (show Bk u7 gz 32 #[.string ⟨#[]⟩, .string ⟨#[]⟩, .int .i64 0, .int .i64 0, .int .i64 0, .bool false] by rw [← hu7]; exact HZ6.out.far (p := ⟨gb, 2, none⟩) HGB.out.2.1 _)
              have HK67 := Lib.hid (show Ke [gb] w6 u7 by rw [← hu7]; exact (Ke.refl [gb] w6).set (p := ⟨gb, 2, none⟩) (List.mem_singleton.2 rfl) _)
              have HM7 := Lib.hid (HM6.out.ke HK67.out (fun hm => HGB.out.2.2.1 (List.mem_singleton.1 hm)))
              have HK57 := Lib.hid (show Ke [gb, mb] u5 u7 from (HK6.out.more (fun y hy => List.mem_cons_of_mem _ hy)).trans (HK67.out.more (fun y hy => by rw [List.mem_singleton.1 hy]; exact List.mem_cons_self ..)))
              have HZP := Lib.hid (HL5.out.put (x := ⟨s, ten, conn, nx, (S : Int), true⟩) (a := nb) (n := nx + 1) HK57.out HG7.out HN7.out HM7.out HFW.out HSZ2.out HTX.out (by have := HL.out.ok.nx; rw [HBN.out] at this; dsimp only at this; omega))
              have HFP := Lib.hid (ft_put (gb := gb) (mb := mb) (ad := ad) (b := b) HL.out.ok.up (x := ⟨s, ten, conn, nx, (S : Int), true⟩) (a := nb) (n := nx + 1))
              try rw [hu7]
              clear hu7 g2 g2f hnx1
              have x0 : u7.cell? ⟨nb, 0, none⟩ = some (.string s) := HN7.out.cell 0
              have x1 : u7.cell? ⟨nb, 1, none⟩ = some (.string ten) := HN7.out.cell 1
              have x2 : u7.cell? ⟨nb, 2, none⟩ = some (.int .i64 conn) := HN7.out.cell 2
              have x3 : u7.cell? ⟨nb, 3, none⟩ = some (.int .i64 nx) := HN7.out.cell 3
              have x4 : u7.cell? ⟨nb, 4, none⟩ = some (.int .i64 (S : Int)) := HN7.out.cell 4
              have x5 : u7.cell? ⟨nb, 5, none⟩ = some (.bool true) := HN7.out.cell 5
              have k0 := HN7.out.frozen 0
              have k1 := HN7.out.frozen 1
              have k2 := HN7.out.frozen 2
              have k3 := HN7.out.frozen 3
              have k4 := HN7.out.frozen 4
              have k5 := HN7.out.frozen 5
              have z0 : u7.cell? ⟨gz, 0, none⟩ = some (.string ⟨#[]⟩) := HZ7.out.cell 0
              have z1 : u7.cell? ⟨gz, 1, none⟩ = some (.string ⟨#[]⟩) := HZ7.out.cell 1
              have z2 : u7.cell? ⟨gz, 2, none⟩ = some (.int .i64 0) := HZ7.out.cell 2
              have z3 : u7.cell? ⟨gz, 3, none⟩ = some (.int .i64 0) := HZ7.out.cell 3
              have z4 : u7.cell? ⟨gz, 4, none⟩ = some (.int .i64 0) := HZ7.out.cell 4
              have z5 : u7.cell? ⟨gz, 5, none⟩ = some (.bool false) := HZ7.out.cell 5
              have f0 := HZ7.out.frozen 0
              have f1 := HZ7.out.frozen 1
              have f2 := HZ7.out.frozen 2
              have f3 := HZ7.out.frozen 3
              have f4 := HZ7.out.frozen 4
              have f5 := HZ7.out.frozen 5
              go_wp2
              have HU : Bk ((((((u7.setCell ⟨gz, 0, none⟩ (.string s)).setCell ⟨gz, 1, none⟩ (.string ten)).setCell ⟨gz, 2, none⟩ (.int .i64 conn)).setCell ⟨gz, 3, none⟩ (.int .i64 nx)).setCell ⟨gz, 4, none⟩ (.int .i64 (S : Int))).setCell ⟨gz, 5, none⟩ (.bool true)) gz 32 #[.string s, .string ten, .int .i64 conn, .int .i64 nx, .int .i64 (S : Int), .bool true] := HZ7.out.set6 _ _ _ _ _ _
              have p0 := HU.cell 0; have p1 := HU.cell 1; have p2 := HU.cell 2; have p3 := HU.cell 3; have p4 := HU.cell 4; have p5 := HU.cell 5
              refine bodyPost_ret (v := .tuple #[.agg #[.string s, .string ten, .int .i64 conn, .int .i64 nx, .int .i64 (S : Int), .bool true], .int .i64 0]) ?_ rfl ⟨by rw [HS.out]; try rfl, _, by rw [HS.out]; exact HZP.out.set6 (fun y hy => by rcases HFP.out y hy with h1 | h1; (have := HLZ.out.lt y h1; have := HGZ.out; omega); (have := HGB.out.2.2.2; omega)) _ _ _ _ _ _, by rw [HS.out]; exact ⟨ke_set6' (((Ke.nil (Ke.of (HB.out.trans (HB5.out.mono HB.out.size))))).trans (HK57.out.more (fun y hy => by rcases List.mem_cons.1 hy with e | e; (rw [e]; exact mem_ftL.2 (.inl rfl)); (rw [List.mem_singleton.1 e]; exact mem_ftL.2 (.inr (.inl rfl)))))) (by rw [HGZ.out]; exact Nat.le_refl _) _ _ _ _ _ _, fun y hy => by rcases HFP.out y hy with h1 | h1; (exact .inl h1); (right; have := HNB.out; have := HB.out.size; omega)⟩⟩
              try simp [results, Try.f25, go_sem, p0, p1, p2, p3, p4, p5]
            · cases q with
              | false =>
                have HS := Lib.hid (show R = (zeroLs, 131, b) by rw [HRT.out]; rfl)
                go_enter Try.func25, Try.ntmps25
                go_upto_region 1 with fail
                try rw [hu1]
                try rw [hgz]
                clear hu1 hgz
                have z0 : u1.cell? ⟨gz, 0, none⟩ = some (.string ⟨#[]⟩) := HZ.out.cell 0
                have z1 : u1.cell? ⟨gz, 1, none⟩ = some (.string ⟨#[]⟩) := HZ.out.cell 1
                have z2 : u1.cell? ⟨gz, 2, none⟩ = some (.int .i64 0) := HZ.out.cell 2
                have z3 : u1.cell? ⟨gz, 3, none⟩ = some (.int .i64 0) := HZ.out.cell 3
                have z4 : u1.cell? ⟨gz, 4, none⟩ = some (.int .i64 0) := HZ.out.cell 4
                have z5 : u1.cell? ⟨gz, 5, none⟩ = some (.bool false) := HZ.out.cell 5
                have f0 := HZ.out.frozen 0
                have f1 := HZ.out.frozen 1
                have f2 := HZ.out.frozen 2
                have f3 := HZ.out.frozen 3
                have f4 := HZ.out.frozen 4
                have f5 := HZ.out.frozen 5
                go_wp2_with (first | (go_at_call 50; (with_reducible refine (HN1.out _).mono ?_); rintro e u5 ⟨rfl, hu⟩; rw [← hu]; clear hu) | (go_at_call 50; (with_reducible refine (HN2.out _).mono ?_); rintro e u5 ⟨rfl, hu⟩; rw [← hu]; clear hu) | (go_at_call 35; (with_reducible refine (HM.out _).mono ?_); rintro e u5 ⟨rfl, hu⟩; rw [hu]; clear hu) | (go_at_call 33; (with_reducible refine (HSP.out _).mono ?_); rintro e u5 ⟨rfl, hu⟩; rw [hu]; clear hu) | (go_at_call 51; (with_reducible refine HF.out.mono ?_); rintro e u5 ⟨rfl, hu⟩; rw [hu]; clear hu))
                have HU : Bk ((((((u1.setCell ⟨gz, 0, none⟩ (.string ⟨#[]⟩)).setCell ⟨gz, 1, none⟩ (.string ⟨#[]⟩)).setCell ⟨gz, 2, none⟩ (.int .i64 0)).setCell ⟨gz, 3, none⟩ (.int .i64 0)).setCell ⟨gz, 4, none⟩ (.int .i64 0)).setCell ⟨gz, 5, none⟩ (.bool false)) gz 32 #[.string ⟨#[]⟩, .string ⟨#[]⟩, .int .i64 0, .int .i64 0, .int .i64 0, .bool false] := HZ.out.set6 _ _ _ _ _ _
                have p0 := HU.cell 0; have p1 := HU.cell 1; have p2 := HU.cell 2; have p3 := HU.cell 3; have p4 := HU.cell 4; have p5 := HU.cell 5
                refine bodyPost_ret (v := .tuple #[.agg #[.string ⟨#[]⟩, .string ⟨#[]⟩, .int .i64 0, .int .i64 0, .int .i64 0, .bool false], .int .i64 131]) ?_ rfl ⟨by rw [HS.out]; rfl, ad, by rw [HS.out]; exact HL.out.set6 (fun y hy => by have := HLZ.out.lt y hy; have := HGZ.out; omega) _ _ _ _ _ _, by rw [HS.out]; exact ⟨ke_set6' (Ke.nil (Ke.of HB.out)) (by rw [HGZ.out]; exact Nat.le_refl _) _ _ _ _ _ _, fun y hy => .inl hy⟩⟩
                try simp [results, Try.f25, go_sem, p0, p1, p2, p3, p4, p5]
              | true =>
                have HS := Lib.hid (show R = ((⟨s, ten, conn, nx, (S : Int), true⟩ : Ls), 0, (⟨ptL ⟨s, ten, conn, nx, (S : Int), true⟩ b.l, nx + 1⟩ : Bo)) by rw [HRT.out]; rfl)
                go_enter Try.func25, Try.ntmps25
                go_upto_region 1 with fail
                try rw [hu1]
                try rw [hgz]
                clear hu1 hgz
                go_upto_region 10 with (first | (go_at_call 50; (with_reducible refine (HN1.out _).mono ?_); rintro e u5 ⟨rfl, hu⟩; rw [← hu]; clear hu) | (go_at_call 50; (with_reducible refine (HN2.out _).mono ?_); rintro e u5 ⟨rfl, hu⟩; rw [← hu]; clear hu) | (go_at_call 35; (with_reducible refine (HM.out _).mono ?_); rintro e u5 ⟨rfl, hu⟩; rw [hu]; clear hu) | (go_at_call 33; (with_reducible refine (HSP.out _).mono ?_); rintro e u5 ⟨rfl, hu⟩; rw [hu]; clear hu) | (go_at_call 51; (with_reducible refine HF.out.mono ?_); rintro e u5 ⟨rfl, hu⟩; rw [hu]; clear hu))
                try simp only [List.cons_append, List.nil_append]
                refine wp_region_held_drew (S := fun wz => Below u1.heap.size u1 wz) (by kernel_rfl) ((Below.refl _ _).drew) (fun hHeld => ?_)
                refine take_at (some 70) (i := 0) (v := ?_) rfl rfl (by kernel_rfl) (by kernel_rfl) (by kernel_rfl) (fun _ _ _ h => h) (Or.inl ⟨by kernel_rfl, ?_⟩) hHeld ?_
                rotate_left
                · intro wz hSw; go_simp; try (with_reducible rfl)
                try simp only [Act.put, List.setIfInBounds_toArray, List.set_cons_zero, List.set_cons_succ, List.getElem_toArray, List.getElem_cons_succ, List.getElem_cons_zero]
                refine take_at (some 72) (i := 2) (v := ?_) rfl rfl (by kernel_rfl) (by kernel_rfl) (by kernel_rfl) (fun _ _ _ h => h) (Or.inl ⟨by kernel_rfl, ?_⟩) hHeld ?_
                rotate_left
                · intro wz hSw; go_simp; try (with_reducible rfl)
                try simp only [Act.put, List.setIfInBounds_toArray, List.set_cons_zero, List.set_cons_succ, List.getElem_toArray, List.getElem_cons_succ, List.getElem_cons_zero]
                refine take_at (some 74) (i := 4) (v := ?_) rfl rfl (by kernel_rfl) (by kernel_rfl) (by kernel_rfl) (fun _ _ _ h => h) (Or.inl ⟨by kernel_rfl, ?_⟩) hHeld ?_
                rotate_left
                · intro wz hSw; go_simp; try (with_reducible rfl)
                try simp only [Act.put, List.setIfInBounds_toArray, List.set_cons_zero, List.set_cons_succ, List.getElem_toArray, List.getElem_cons_succ, List.getElem_cons_zero]
                refine take_at (some 75) (i := 5) (v := ?_) rfl rfl (by kernel_rfl) (by kernel_rfl) (by kernel_rfl) (fun _ _ _ h => h) (Or.inl ⟨by kernel_rfl, ?_⟩) hHeld ?_
                rotate_left
                · intro wz hSw; go_simp; try (with_reducible rfl)
                try simp only [Act.put, List.setIfInBounds_toArray, List.set_cons_zero, List.set_cons_succ, List.getElem_toArray, List.getElem_cons_succ, List.getElem_cons_zero]
                refine take_at (some 76) (i := 6) (v := ?_) rfl rfl (by kernel_rfl) (by kernel_rfl) (by kernel_rfl) (fun _ _ _ h => h) (Or.inl ⟨by kernel_rfl, ?_⟩) hHeld ?_
                rotate_left
                · intro wz hSw; have g2 : wz.cell? ⟨gb, 2, none⟩ = some (.int .i64 nx) := (HLB.out.below hSw HLB.out.lt).cell 2; go_simp; try (with_reducible rfl)
                try simp only [Act.put, List.setIfInBounds_toArray, List.set_cons_zero, List.set_cons_succ, List.getElem_toArray, List.getElem_cons_succ, List.getElem_cons_zero]
                refine take_at (some 77) (i := 7) (v := ?_) rfl rfl (by kernel_rfl) (by kernel_rfl) (by kernel_rfl) (fun _ _ _ h => h) (Or.inl ⟨by kernel_rfl, ?_⟩) hHeld ?_
                rotate_left
                · intro wz hSw; have g2 : wz.cell? ⟨gb, 2, none⟩ = some (.int .i64 nx) := (HLB.out.below hSw HLB.out.lt).cell 2; go_simp; try (with_reducible rfl)
                try simp only [Act.put, List.setIfInBounds_toArray, List.set_cons_zero, List.set_cons_succ, List.getElem_toArray, List.getElem_cons_succ, List.getElem_cons_zero]
                refine take_at (some 78) (i := 8) (v := ?_) rfl rfl (by kernel_rfl) (by kernel_rfl) (by kernel_rfl) (fun _ _ _ h => h) (Or.inl ⟨by kernel_rfl, ?_⟩) hHeld ?_
                rotate_left
                · intro wz hSw; have g2 : wz.cell? ⟨gb, 2, none⟩ = some (.int .i64 nx) := (HLB.out.below hSw HLB.out.lt).cell 2; go_simp; try (with_reducible rfl)
                try simp only [Act.put, List.setIfInBounds_toArray, List.set_cons_zero, List.set_cons_succ, List.getElem_toArray, List.getElem_cons_succ, List.getElem_cons_zero]
                refine take_at (some 79) (i := 9) (v := ?_) rfl rfl (by kernel_rfl) (by kernel_rfl) (by kernel_rfl) (fun _ _ _ h => h) (Or.inl ⟨by kernel_rfl, ?_⟩) hHeld ?_
                rotate_left
                · intro wz hSw; go_simp; try (with_reducible rfl)
                try simp only [Act.put, List.setIfInBounds_toArray, List.set_cons_zero, List.set_cons_succ, List.getElem_toArray, List.getElem_cons_succ, List.getElem_cons_zero]
                refine take_at (some 80) (i := 10) (v := ?_) rfl rfl (by kernel_rfl) (by kernel_rfl) (by kernel_rfl) (fun _ _ _ h => h) (Or.inl ⟨by kernel_rfl, ?_⟩) hHeld ?_
                rotate_left
                · intro wz hSw; go_simp; try (with_reducible rfl)
                try simp only [Act.put, List.setIfInBounds_toArray, List.set_cons_zero, List.set_cons_succ, List.getElem_toArray, List.getElem_cons_succ, List.getElem_cons_zero]
                refine take_at (some 81) (i := 11) (v := ?_) rfl rfl (by kernel_rfl) (by kernel_rfl) (by kernel_rfl) (fun _ _ _ h => h) (Or.inl ⟨by kernel_rfl, ?_⟩) hHeld ?_
                rotate_left
                · intro wz hSw; go_simp; try (with_reducible rfl)
                try simp only [Act.put, List.setIfInBounds_toArray, List.set_cons_zero, List.set_cons_succ, List.getElem_toArray, List.getElem_cons_succ, List.getElem_cons_zero]
                refine wpAnyH_ready (rs := [1]) (by kernel_rfl) (by simp) (AllReadyH.cons rfl (fun K hK => ?_) AllReadyH.nil)
                rw [if_pos (by kernel_rfl)]
                go_simp
                refine (sclone_ok s _ HSZ.out.2).mono ?_
                rintro e x1 ⟨rfl, hb1⟩
                try dsimp only
                have hb1 := ((Below.refl u1.heap.size u1).drew).trans hb1
                refine hK.out _ _ hb1 (fun hHeld => ?_)
                try simp only [Act.put, List.setIfInBounds_toArray, List.set_cons_zero, List.set_cons_succ, List.getElem_toArray, List.getElem_cons_succ, List.getElem_cons_zero]
                refine wpAnyH_ready (rs := [3]) (by kernel_rfl) (by simp) (AllReadyH.cons rfl (fun K hK => ?_) AllReadyH.nil)
                rw [if_pos (by kernel_rfl)]
                go_simp
                refine (sclone_ok ten _ HSZ.out.1).mono ?_
                rintro e x2 ⟨rfl, hb2⟩
                try dsimp only
                have hb2 := hb1.trans (hb2.mono hb1.size)
                refine hK.out _ _ hb2 (fun hHeld => ?_)
                try simp only [Act.put, List.setIfInBounds_toArray, List.set_cons_zero, List.set_cons_succ, List.getElem_toArray, List.getElem_cons_succ, List.getElem_cons_zero]
                refine wpAnyH_ready (rs := [12]) (by kernel_rfl) (by simp) (AllReadyH.cons rfl (fun K hK => ?_) AllReadyH.nil)
                rw [if_pos (by kernel_rfl)]
                go_simp
                refine (luntil_ok x2 gb mb g nx N M D Q S (HLB.out.below hb2 HLB.out.lt) HQS.out.1 HQS.out.2.1 HQS.out.2.2).mono ?_
                rintro e x3 ⟨rfl, hx3⟩
                rw [hx3]
                clear hx3
                try dsimp only
                refine hK.out _ _ hb2 (fun hHeld => ?_)
                try simp only [Act.put, List.setIfInBounds_toArray, List.set_cons_zero, List.set_cons_succ, List.getElem_toArray, List.getElem_cons_succ, List.getElem_cons_zero]
                refine take_at (some 83) (i := 13) (v := ?_) rfl rfl (by kernel_rfl) (by kernel_rfl) (by kernel_rfl) (fun _ _ _ h => h) (Or.inl ⟨by kernel_rfl, ?_⟩) hHeld ?_
                rotate_left
                · intro wz hSw; go_simp; try (with_reducible rfl)
                try simp only [Act.put, List.setIfInBounds_toArray, List.set_cons_zero, List.set_cons_succ, List.getElem_toArray, List.getElem_cons_succ, List.getElem_cons_zero]
                refine wpAnyH_ready (rs := [14]) (by kernel_rfl) (by simp) (AllReadyH.cons rfl (fun K hK => ?_) AllReadyH.nil)
                rw [if_pos (by kernel_rfl)]
                go_simp
                refine hK.out _ _ (hb2.alloc hb2.size _) (fun hHeld => ?_)
                try simp only [Act.put, List.setIfInBounds_toArray, List.set_cons_zero, List.set_cons_succ, List.getElem_toArray, List.getElem_cons_succ, List.getElem_cons_zero]
                refine take_at (some 14) (i := 15) (v := ?_) rfl rfl (by kernel_rfl) (by kernel_rfl) (by kernel_rfl) (fun _ _ _ h => h) (Or.inl ⟨by kernel_rfl, ?_⟩) hHeld ?_
                rotate_left
                · intro wz hSw; go_simp; try (with_reducible rfl)
                try simp only [Act.put, List.setIfInBounds_toArray, List.set_cons_zero, List.set_cons_succ, List.getElem_toArray, List.getElem_cons_succ, List.getElem_cons_zero]
                refine wpAnyH_done (by kernel_rfl) ?_ _
                obtain ⟨nb, hnb⟩ : ∃ nb, x2.heap.size = nb := ⟨_, rfl⟩
                have HNB := Lib.hid (show u1.heap.size ≤ nb by rw [← hnb]; exact hb2.size)
                have hb5 := hb2.alloc hb2.size (.cells #[.string s, .string ten, .int .i64 conn, .int .i64 nx, .int .i64 (S : Int), .bool true] 32)
                have hk5 := Bk.new x2 32 #[.string s, .string ten, .int .i64 conn, .int .i64 nx, .int .i64 (S : Int), .bool true]
                try rw [hnb]
                rw [hnb] at hk5
                clear hnb
                refine gen_ql (fun wz => Below u1.heap.size u1 wz ∧ Bk wz nb 32 #[.string s, .string ten, .int .i64 conn, .int .i64 nx, .int .i64 (S : Int), .bool true]) ⟨hb5, hk5⟩ (fun u5 hq => ?_)
                have HB5 := Lib.hid hq.1
                have HK5 := Lib.hid hq.2
                clear hq hb5 hk5 hb1 hb2 hHeld
                have HL5 := Lib.hid (HL.out.on HB5.out)
                have HZ5 := Lib.hid (HZ.out.below HB5.out HZ.out.lt)
                go_upto_region 11 with fail
                try simp only [List.cons_append, List.nil_append]
                refine wp_region_held_drew (S := fun wz => Bk wz gb 60 (lzc g (M : Int) nx mb) ∧ Bk wz nb 32 #[.string s, .string ten, .int .i64 conn, .int .i64 nx, .int .i64 (S : Int), .bool true]) (by kernel_rfl) (⟨(HLB.out.below HB5.out HLB.out.lt).drew, HK5.out.drew⟩) (fun hHeld => ?_)
                refine take_at (some 85) (i := 0) (v := ?_) rfl rfl (by kernel_rfl) (by kernel_rfl) (by kernel_rfl) (fun _ _ _ h => h) (Or.inl ⟨by kernel_rfl, ?_⟩) hHeld ?_
                rotate_left
                · intro wz hSw; go_simp; try (with_reducible rfl)
                try simp only [Act.put, List.setIfInBounds_toArray, List.set_cons_zero, List.set_cons_succ, List.getElem_toArray, List.getElem_cons_succ, List.getElem_cons_zero]
                refine take_at (some 86) (i := 1) (v := ?_) rfl rfl (by kernel_rfl) (by kernel_rfl) (by kernel_rfl) (fun _ _ _ h => h) (Or.inl ⟨by kernel_rfl, ?_⟩) hHeld ?_
                rotate_left
                · intro wz hSw; have g3 : wz.cell? ⟨gb, 3, none⟩ = some (.map (some mb)) := hSw.1.cell 3; have n0 : wz.cell? ⟨nb, 0, none⟩ = some (.string s) := hSw.2.cell 0; go_simp; try (with_reducible rfl)
                try simp only [Act.put, List.setIfInBounds_toArray, List.set_cons_zero, List.set_cons_succ, List.getElem_toArray, List.getElem_cons_succ, List.getElem_cons_zero]
                refine take_at (some 87) (i := 2) (v := ?_) rfl rfl (by kernel_rfl) (by kernel_rfl) (by kernel_rfl) (fun _ _ _ h => h) (Or.inl ⟨by kernel_rfl, ?_⟩) hHeld ?_
                rotate_left
                · intro wz hSw; have g3 : wz.cell? ⟨gb, 3, none⟩ = some (.map (some mb)) := hSw.1.cell 3; have n0 : wz.cell? ⟨nb, 0, none⟩ = some (.string s) := hSw.2.cell 0; go_simp; try (with_reducible rfl)
                try simp only [Act.put, List.setIfInBounds_toArray, List.set_cons_zero, List.set_cons_succ, List.getElem_toArray, List.getElem_cons_succ, List.getElem_cons_zero]
                refine take_at (some 88) (i := 3) (v := ?_) rfl rfl (by kernel_rfl) (by kernel_rfl) (by kernel_rfl) (fun _ _ _ h => h) (Or.inl ⟨by kernel_rfl, ?_⟩) hHeld ?_
                rotate_left
                · intro wz hSw; have g3 : wz.cell? ⟨gb, 3, none⟩ = some (.map (some mb)) := hSw.1.cell 3; have n0 : wz.cell? ⟨nb, 0, none⟩ = some (.string s) := hSw.2.cell 0; go_simp; try (with_reducible rfl)
                try simp only [Act.put, List.setIfInBounds_toArray, List.set_cons_zero, List.set_cons_succ, List.getElem_toArray, List.getElem_cons_succ, List.getElem_cons_zero]
                refine take_at (some 89) (i := 4) (v := ?_) rfl rfl (by kernel_rfl) (by kernel_rfl) (by kernel_rfl) (fun _ _ _ h => h) (Or.inl ⟨by kernel_rfl, ?_⟩) hHeld ?_
                rotate_left
                · intro wz hSw; go_simp; try (with_reducible rfl)
                try simp only [Act.put, List.setIfInBounds_toArray, List.set_cons_zero, List.set_cons_succ, List.getElem_toArray, List.getElem_cons_succ, List.getElem_cons_zero]
                refine take_at (some 90) (i := 5) (v := ?_) rfl rfl (by kernel_rfl) (by kernel_rfl) (by kernel_rfl) (fun _ _ _ h => h) (Or.inl ⟨by kernel_rfl, ?_⟩) hHeld ?_
                rotate_left
                · intro wz hSw; have g3 : wz.cell? ⟨gb, 3, none⟩ = some (.map (some mb)) := hSw.1.cell 3; have n0 : wz.cell? ⟨nb, 0, none⟩ = some (.string s) := hSw.2.cell 0; go_simp; try (with_reducible rfl)
                try simp only [Act.put, List.setIfInBounds_toArray, List.set_cons_zero, List.set_cons_succ, List.getElem_toArray, List.getElem_cons_succ, List.getElem_cons_zero]
                refine take_at (some 91) (i := 6) (v := ?_) rfl rfl (by kernel_rfl) (by kernel_rfl) (by kernel_rfl) (fun _ _ _ h => h) (Or.inl ⟨by kernel_rfl, ?_⟩) hHeld ?_
                rotate_left
                · intro wz hSw; have g3 : wz.cell? ⟨gb, 3, none⟩ = some (.map (some mb)) := hSw.1.cell 3; have n0 : wz.cell? ⟨nb, 0, none⟩ = some (.string s) := hSw.2.cell 0; go_simp; try (with_reducible rfl)
                try simp only [Act.put, List.setIfInBounds_toArray, List.set_cons_zero, List.set_cons_succ, List.getElem_toArray, List.getElem_cons_succ, List.getElem_cons_zero]
                refine take_at (some 92) (i := 7) (v := ?_) rfl rfl (by kernel_rfl) (by kernel_rfl) (by kernel_rfl) (fun _ _ _ h => h) (Or.inl ⟨by kernel_rfl, ?_⟩) hHeld ?_
                rotate_left
                · intro wz hSw; have g3 : wz.cell? ⟨gb, 3, none⟩ = some (.map (some mb)) := hSw.1.cell 3; have n0 : wz.cell? ⟨nb, 0, none⟩ = some (.string s) := hSw.2.cell 0; go_simp; try (with_reducible rfl)
                try simp only [Act.put, List.setIfInBounds_toArray, List.set_cons_zero, List.set_cons_succ, List.getElem_toArray, List.getElem_cons_succ, List.getElem_cons_zero]
                refine take_at (some 93) (i := 8) (v := ?_) rfl rfl (by kernel_rfl) (by kernel_rfl) (by kernel_rfl) (fun _ _ _ h => h) (Or.inl ⟨by kernel_rfl, ?_⟩) hHeld ?_
                rotate_left
                · intro wz hSw; go_simp; try (with_reducible rfl)
                try simp only [Act.put, List.setIfInBounds_toArray, List.set_cons_zero, List.set_cons_succ, List.getElem_toArray, List.getElem_cons_succ, List.getElem_cons_zero]
                refine wpAnyH_ready (rs := [9]) (by kernel_rfl) (by simp) (AllReadyH.cons rfl (fun K hK => ?_) AllReadyH.nil)
                rw [if_pos (by kernel_rfl)]
                refine op_lstore (.tmp 88) (.tmp 92) (.tmp 93) rfl mb _ s nb rfl rfl rfl (HL5.out.mp.ke (Ke.refl [] u5).drew (fun hm => by cases hm)) (by have h1 := List.length_filter_le (fun y : ByteArray × Nat => !nmE y.1 s) (b.l.map fun x => (x.name, ad x.name)); have h2 := HL.out.ok.few; unfold outK; rw [List.length_map] at h1; omega) HSZ.out.2 ?_
                intro w6 hm6 hk6
                have hkm : ∀ k t cs, Bk u5 k t cs → Bk w6 k t cs := fun k t cs hk => hk.drew.ke hk6 (fun hm => by
                  rw [List.mem_singleton.1 hm] at hk
                  obtain ⟨es, ck, hq⟩ := HL5.out.mp.block
                  have h3 : u5.heap[mb]? = some (.cells cs t (0, 0)) := hk
                  rw [h3] at hq
                  cases hq)
                refine hK.out _ _ ⟨hkm _ _ _ (HLB.out.below HB5.out HLB.out.lt), hkm _ _ _ HK5.out⟩ (fun hHeld => ?_)
                try simp only [Act.put, List.setIfInBounds_toArray, List.set_cons_zero, List.set_cons_succ, List.getElem_toArray, List.getElem_cons_succ, List.getElem_cons_zero]
                refine wpAnyH_done (by kernel_rfl) ?_ _
                have HK6 := Lib.hid (show Ke [mb] u5 w6 from ((Ke.refl [mb] u5).drew).trans hk6)
                have HM6 := Lib.hid hm6
                have HG6 := Lib.hid (hkm _ _ _ (HLB.out.below HB5.out HLB.out.lt))
                have HN6 := Lib.hid (hkm _ _ _ HK5.out)
                have HZ6 := Lib.hid (hkm _ _ _ HZ5.out)
                clear hm6 hk6 hkm hHeld
                have g2 : w6.cell? ⟨gb, 2, none⟩ = some (.int .i64 nx) := HG6.out.cell 2
                have g2f := HG6.out.frozen 2
                have hnx1 := HNX.out
                go_upto_region 13 with fail
                obtain ⟨u7, hu7⟩ : ∃ u7, w6.setCell ⟨gb, 2, none⟩ (.int .i64 (nx + 1)) = u7 := ⟨_, rfl⟩
                have HGB := Lib.hid (show nb ≠ gb ∧ gz ≠ gb ∧ mb ≠ gb ∧ gz ≠ nb from ⟨HN6.out.apart HG6.out (by decide), HZ6.out.apart HG6.out (by decide), HL.out.mapBook, by have := HNB.out; have := HZ.out.lt; omega⟩)
                have HG7 := Lib.hid (show Bk u7 gb 60 (lzc g (M : Int) (nx + 1) mb) by rw [← hu7]; simpa only [List.setIfInBounds_toArray, List.set_cons_zero, List.set_cons_succ] using HG6.out.set 2 (.int .i64 (nx + 1)))
                have HN7 := Lib.hid (show Bk u7 nb 32 #[.string s, .string ten, .int .i64 conn, .int .i64 nx, .int .i64 (S : Int), .bool true] by rw [← hu7]; exact HN6.out.far (p := ⟨gb, 2, none⟩) HGB.out.1 _)
                have HZ7 := Lib.hid (show Bk u7 gz 32 #[.string ⟨#[]⟩, .string ⟨#[]⟩, .int .i64 0, .int .i64 0, .int .i64 0, .bool false] by rw [← hu7]; exact HZ6.out.far (p := ⟨gb, 2, none⟩) HGB.out.2.1 _)
                have HK67 := Lib.hid (show Ke [gb] w6 u7 by rw [← hu7]; exact (Ke.refl [gb] w6).set (p := ⟨gb, 2, none⟩) (List.mem_singleton.2 rfl) _)
                have HM7 := Lib.hid (HM6.out.ke HK67.out (fun hm => HGB.out.2.2.1 (List.mem_singleton.1 hm)))
                have HK57 := Lib.hid (show Ke [gb, mb] u5 u7 from (HK6.out.more (fun y hy => List.mem_cons_of_mem _ hy)).trans (HK67.out.more (fun y hy => by rw [List.mem_singleton.1 hy]; exact List.mem_cons_self ..)))
                have HZP := Lib.hid (HL5.out.put (x := ⟨s, ten, conn, nx, (S : Int), true⟩) (a := nb) (n := nx + 1) HK57.out HG7.out HN7.out HM7.out HFW.out HSZ2.out HTX.out (by have := HL.out.ok.nx; rw [HBN.out] at this; dsimp only at this; omega))
                have HFP := Lib.hid (ft_put (gb := gb) (mb := mb) (ad := ad) (b := b) HL.out.ok.up (x := ⟨s, ten, conn, nx, (S : Int), true⟩) (a := nb) (n := nx + 1))
                try rw [hu7]
                clear hu7 g2 g2f hnx1
                have x0 : u7.cell? ⟨nb, 0, none⟩ = some (.string s) := HN7.out.cell 0
                have x1 : u7.cell? ⟨nb, 1, none⟩ = some (.string ten) := HN7.out.cell 1
                have x2 : u7.cell? ⟨nb, 2, none⟩ = some (.int .i64 conn) := HN7.out.cell 2
                have x3 : u7.cell? ⟨nb, 3, none⟩ = some (.int .i64 nx) := HN7.out.cell 3
                have x4 : u7.cell? ⟨nb, 4, none⟩ = some (.int .i64 (S : Int)) := HN7.out.cell 4
                have x5 : u7.cell? ⟨nb, 5, none⟩ = some (.bool true) := HN7.out.cell 5
                have k0 := HN7.out.frozen 0
                have k1 := HN7.out.frozen 1
                have k2 := HN7.out.frozen 2
                have k3 := HN7.out.frozen 3
                have k4 := HN7.out.frozen 4
                have k5 := HN7.out.frozen 5
                have z0 : u7.cell? ⟨gz, 0, none⟩ = some (.string ⟨#[]⟩) := HZ7.out.cell 0
                have z1 : u7.cell? ⟨gz, 1, none⟩ = some (.string ⟨#[]⟩) := HZ7.out.cell 1
                have z2 : u7.cell? ⟨gz, 2, none⟩ = some (.int .i64 0) := HZ7.out.cell 2
                have z3 : u7.cell? ⟨gz, 3, none⟩ = some (.int .i64 0) := HZ7.out.cell 3
                have z4 : u7.cell? ⟨gz, 4, none⟩ = some (.int .i64 0) := HZ7.out.cell 4
                have z5 : u7.cell? ⟨gz, 5, none⟩ = some (.bool false) := HZ7.out.cell 5
                have f0 := HZ7.out.frozen 0
                have f1 := HZ7.out.frozen 1
                have f2 := HZ7.out.frozen 2
                have f3 := HZ7.out.frozen 3
                have f4 := HZ7.out.frozen 4
                have f5 := HZ7.out.frozen 5
                go_wp2
                have HU : Bk ((((((u7.setCell ⟨gz, 0, none⟩ (.string s)).setCell ⟨gz, 1, none⟩ (.string ten)).setCell ⟨gz, 2, none⟩ (.int .i64 conn)).setCell ⟨gz, 3, none⟩ (.int .i64 nx)).setCell ⟨gz, 4, none⟩ (.int .i64 (S : Int))).setCell ⟨gz, 5, none⟩ (.bool true)) gz 32 #[.string s, .string ten, .int .i64 conn, .int .i64 nx, .int .i64 (S : Int), .bool true] := HZ7.out.set6 _ _ _ _ _ _
                have p0 := HU.cell 0; have p1 := HU.cell 1; have p2 := HU.cell 2; have p3 := HU.cell 3; have p4 := HU.cell 4; have p5 := HU.cell 5
                refine bodyPost_ret (v := .tuple #[.agg #[.string s, .string ten, .int .i64 conn, .int .i64 nx, .int .i64 (S : Int), .bool true], .int .i64 0]) ?_ rfl ⟨by rw [HS.out]; try rfl, _, by rw [HS.out]; exact HZP.out.set6 (fun y hy => by rcases HFP.out y hy with h1 | h1; (have := HLZ.out.lt y h1; have := HGZ.out; omega); (have := HGB.out.2.2.2; omega)) _ _ _ _ _ _, by rw [HS.out]; exact ⟨ke_set6' (((Ke.nil (Ke.of (HB.out.trans (HB5.out.mono HB.out.size))))).trans (HK57.out.more (fun y hy => by rcases List.mem_cons.1 hy with e | e; (rw [e]; exact mem_ftL.2 (.inl rfl)); (rw [List.mem_singleton.1 e]; exact mem_ftL.2 (.inr (.inl rfl)))))) (by rw [HGZ.out]; exact Nat.le_refl _) _ _ _ _ _ _, fun y hy => by rcases HFP.out y hy with h1 | h1; (exact .inl h1); (right; have := HNB.out; have := HB.out.size; omega)⟩⟩
                try simp [results, Try.f25, go_sem, p0, p1, p2, p3, p4, p5]
            · cases q with
              | false =>
                have HS := Lib.hid (show R = (zeroLs, 131, b) by rw [HRT.out]; rfl)
                go_enter Try.func25, Try.ntmps25
                go_upto_region 1 with fail
                try rw [hu1]
                try rw [hgz]
                clear hu1 hgz
                have z0 : u1.cell? ⟨gz, 0, none⟩ = some (.string ⟨#[]⟩) := HZ.out.cell 0
                have z1 : u1.cell? ⟨gz, 1, none⟩ = some (.string ⟨#[]⟩) := HZ.out.cell 1
                have z2 : u1.cell? ⟨gz, 2, none⟩ = some (.int .i64 0) := HZ.out.cell 2
                have z3 : u1.cell? ⟨gz, 3, none⟩ = some (.int .i64 0) := HZ.out.cell 3
                have z4 : u1.cell? ⟨gz, 4, none⟩ = some (.int .i64 0) := HZ.out.cell 4
                have z5 : u1.cell? ⟨gz, 5, none⟩ = some (.bool false) := HZ.out.cell 5
                have f0 := HZ.out.frozen 0
                have f1 := HZ.out.frozen 1
                have f2 := HZ.out.frozen 2
                have f3 := HZ.out.frozen 3
                have f4 := HZ.out.frozen 4
                have f5 := HZ.out.frozen 5
                go_wp2_with (first | (go_at_call 50; (with_reducible refine (HN1.out _).mono ?_); rintro e u5 ⟨rfl, hu⟩; rw [← hu]; clear hu) | (go_at_call 50; (with_reducible refine (HN2.out _).mono ?_); rintro e u5 ⟨rfl, hu⟩; rw [← hu]; clear hu) | (go_at_call 35; (with_reducible refine (HM.out _).mono ?_); rintro e u5 ⟨rfl, hu⟩; rw [hu]; clear hu) | (go_at_call 33; (with_reducible refine (HSP.out _).mono ?_); rintro e u5 ⟨rfl, hu⟩; rw [hu]; clear hu) | (go_at_call 51; (with_reducible refine HF.out.mono ?_); rintro e u5 ⟨rfl, hu⟩; rw [hu]; clear hu))
                have HU : Bk ((((((u1.setCell ⟨gz, 0, none⟩ (.string ⟨#[]⟩)).setCell ⟨gz, 1, none⟩ (.string ⟨#[]⟩)).setCell ⟨gz, 2, none⟩ (.int .i64 0)).setCell ⟨gz, 3, none⟩ (.int .i64 0)).setCell ⟨gz, 4, none⟩ (.int .i64 0)).setCell ⟨gz, 5, none⟩ (.bool false)) gz 32 #[.string ⟨#[]⟩, .string ⟨#[]⟩, .int .i64 0, .int .i64 0, .int .i64 0, .bool false] := HZ.out.set6 _ _ _ _ _ _
                have p0 := HU.cell 0; have p1 := HU.cell 1; have p2 := HU.cell 2; have p3 := HU.cell 3; have p4 := HU.cell 4; have p5 := HU.cell 5
                refine bodyPost_ret (v := .tuple #[.agg #[.string ⟨#[]⟩, .string ⟨#[]⟩, .int .i64 0, .int .i64 0, .int .i64 0, .bool false], .int .i64 131]) ?_ rfl ⟨by rw [HS.out]; rfl, ad, by rw [HS.out]; exact HL.out.set6 (fun y hy => by have := HLZ.out.lt y hy; have := HGZ.out; omega) _ _ _ _ _ _, by rw [HS.out]; exact ⟨ke_set6' (Ke.nil (Ke.of HB.out)) (by rw [HGZ.out]; exact Nat.le_refl _) _ _ _ _ _ _, fun y hy => .inl hy⟩⟩
                try simp [results, Try.f25, go_sem, p0, p1, p2, p3, p4, p5]
              | true =>
                have HS := Lib.hid (show R = (zeroLs, 4, b) by rw [HRT.out]; rfl)
                go_enter Try.func25, Try.ntmps25
                go_upto_region 1 with fail
                try rw [hu1]
                try rw [hgz]
                clear hu1 hgz
                have z0 : u1.cell? ⟨gz, 0, none⟩ = some (.string ⟨#[]⟩) := HZ.out.cell 0
                have z1 : u1.cell? ⟨gz, 1, none⟩ = some (.string ⟨#[]⟩) := HZ.out.cell 1
                have z2 : u1.cell? ⟨gz, 2, none⟩ = some (.int .i64 0) := HZ.out.cell 2
                have z3 : u1.cell? ⟨gz, 3, none⟩ = some (.int .i64 0) := HZ.out.cell 3
                have z4 : u1.cell? ⟨gz, 4, none⟩ = some (.int .i64 0) := HZ.out.cell 4
                have z5 : u1.cell? ⟨gz, 5, none⟩ = some (.bool false) := HZ.out.cell 5
                have f0 := HZ.out.frozen 0
                have f1 := HZ.out.frozen 1
                have f2 := HZ.out.frozen 2
                have f3 := HZ.out.frozen 3
                have f4 := HZ.out.frozen 4
                have f5 := HZ.out.frozen 5
                go_wp2_with (first | (go_at_call 50; (with_reducible refine (HN1.out _).mono ?_); rintro e u5 ⟨rfl, hu⟩; rw [← hu]; clear hu) | (go_at_call 50; (with_reducible refine (HN2.out _).mono ?_); rintro e u5 ⟨rfl, hu⟩; rw [← hu]; clear hu) | (go_at_call 35; (with_reducible refine (HM.out _).mono ?_); rintro e u5 ⟨rfl, hu⟩; rw [hu]; clear hu) | (go_at_call 33; (with_reducible refine (HSP.out _).mono ?_); rintro e u5 ⟨rfl, hu⟩; rw [hu]; clear hu) | (go_at_call 51; (with_reducible refine HF.out.mono ?_); rintro e u5 ⟨rfl, hu⟩; rw [hu]; clear hu))
                have HU : Bk ((((((u1.setCell ⟨gz, 0, none⟩ (.string ⟨#[]⟩)).setCell ⟨gz, 1, none⟩ (.string ⟨#[]⟩)).setCell ⟨gz, 2, none⟩ (.int .i64 0)).setCell ⟨gz, 3, none⟩ (.int .i64 0)).setCell ⟨gz, 4, none⟩ (.int .i64 0)).setCell ⟨gz, 5, none⟩ (.bool false)) gz 32 #[.string ⟨#[]⟩, .string ⟨#[]⟩, .int .i64 0, .int .i64 0, .int .i64 0, .bool false] := HZ.out.set6 _ _ _ _ _ _
                have p0 := HU.cell 0; have p1 := HU.cell 1; have p2 := HU.cell 2; have p3 := HU.cell 3; have p4 := HU.cell 4; have p5 := HU.cell 5
                refine bodyPost_ret (v := .tuple #[.agg #[.string ⟨#[]⟩, .string ⟨#[]⟩, .int .i64 0, .int .i64 0, .int .i64 0, .bool false], .int .i64 4]) ?_ rfl ⟨by rw [HS.out]; rfl, ad, by rw [HS.out]; exact HL.out.set6 (fun y hy => by have := HLZ.out.lt y hy; have := HGZ.out; omega) _ _ _ _ _ _, by rw [HS.out]; exact ⟨ke_set6' (Ke.nil (Ke.of HB.out)) (by rw [HGZ.out]; exact Nat.le_refl _) _ _ _ _ _ _, fun y hy => .inl hy⟩⟩
                try simp [results, Try.f25, go_sem, p0, p1, p2, p3, p4, p5]
end Go.Proofs.Ytpbobmiajjgekaa
