/- Renew, Release, Evict: their contracts. (Written by gen_lz7.py.) -/
import Derived.Test.YtpbobmiajjgekaaLz6
namespace Go.Proofs.Ytpbobmiajjgekaa
set_option linter.unusedVariables false
set_option maxRecDepth 100000
set_option linter.unusedSimpArgs false
open Go.RowKit

theorem ke_set (u : World) (g : Nat) (v0 v1 v2 v3 v4 v5 : Value) : Ke [g] u (Proofs.Ytpbobmiajjgekaa.set6 u g v0 v1 v2 v3 v4 v5) :=
  ((((((Ke.refl [g] u).set (p := ⟨g, 0, none⟩) (List.mem_singleton.2 rfl) v0).set (p := ⟨g, 1, none⟩) (List.mem_singleton.2 rfl) v1).set (p := ⟨g, 2, none⟩) (List.mem_singleton.2 rfl) v2).set (p := ⟨g, 3, none⟩) (List.mem_singleton.2 rfl) v3).set (p := ⟨g, 4, none⟩) (List.mem_singleton.2 rfl) v4).set (p := ⟨g, 5, none⟩) (List.mem_singleton.2 rfl) v5
theorem Lz.set6 {u : World} {gb mb : Nat} {ad : ByteArray → Nat} {g most : Int} {b : Bo} (h : Lz u gb mb ad g most b) {k : Nat} (hk : ∀ y ∈ ftL gb mb ad b, y ≠ k) (v0 v1 v2 v3 v4 v5 : Value) : Lz (Proofs.Ytpbobmiajjgekaa.set6 u k v0 v1 v2 v3 v4 v5) gb mb ad g most b :=
  h.ke (ke_set u k v0 v1 v2 v3 v4 v5) (fun y hy hm => hk y hy (List.mem_singleton.1 hm))
theorem own_zero {b : Bo} {ten s : ByteArray} {ep now : Int} (h : (ownL b ten s ep now).2 = 0) : ∃ x, fnL s b.l = some x ∧ (ownL b ten s ep now).1 = x ∧ heL x now = true ∧ x.epoch = ep ∧ x.ten = ten ∧ clkB now = true := by
  unfold ownL at h ⊢
  cases hc : clkB now with
  | false => rw [hc] at h; simp at h
  | true =>
    rw [hc] at h
    simp only [Bool.true_eq_false, if_false] at h ⊢
    cases hh : holdL b s now with
    | none => rw [hh] at h; simp at h
    | some x =>
      rw [hh] at h
      dsimp only at h ⊢
      have hf : fnL s b.l = some x ∧ heL x now = true := by
        unfold holdL at hh
        cases hq : fnL s b.l with
        | none => rw [hq] at hh; cases hh
        | some y =>
          rw [hq] at hh
          have : (if heL y now = true then some y else none) = some x := hh
          split at this
          · rename_i h1
            injection this with this
            subst this
            exact ⟨rfl, h1⟩
          · cases this
      cases ht : nmE x.ten ten with
      | false => rw [ht] at h; simp at h
      | true =>
        rw [ht] at h
        simp only [Bool.true_eq_false, if_false] at h ⊢
        by_cases he : x.epoch = ep
        · rw [if_pos he]
          exact ⟨x, hf.1, rfl, hf.2, he, (nmE_iff _ _).1 ht, trivial⟩
        · rw [if_neg he] at h; cases h
/-- What Renew leaves. -/
structure RnP (gb mb : Nat) (ad : ByteArray → Nat) (g most : Int) (F : List Nat) (R : Ls × Int × Bo) (u : World) (e : Ending) (u' : World) : Prop where
  e : e = .returned (.tuple #[.agg (lsc R.1), .int .i64 R.2.1])
  z : Lz u' gb mb ad g most R.2.2
  k : Ke F u u'
set_option maxRecDepth 100000 in
set_option maxHeartbeats 4000000 in
theorem lrenew_ok {u : World} {gb mb : Nat} {ad : ByteArray → Nat} {g most : Int} {b : Bo} (h : Lz u gb mb ad g most b) (ten s : ByteArray) (ep now ttl : Int) (hs : s.size ≤ 140737488355328) :
    Calls Try.prog 14 #[.pointer (some ⟨gb, 0, none⟩), .string ten, .string s, .int .i64 ep, .int .i64 now, .int .i64 ttl] u (RnP gb mb ad g most (lbs ad b.l) (renewL most b ten s ep now ttl) u) := by
  obtain ⟨u1, hu1⟩ : ∃ u1, u.alloc (.cells #[.string ⟨#[]⟩, .string ⟨#[]⟩, .int .i64 0, .int .i64 0, .int .i64 0, .bool false] 32) = u1 := ⟨_, rfl⟩
  have HB := Lib.hid (show Below u.heap.size u u1 by rw [← hu1]; exact (Below.refl _ _).alloc (Nat.le_refl _) _)
  obtain ⟨gz, hgz⟩ : ∃ gz, u.heap.size = gz := ⟨_, rfl⟩
  have HGZ := Lib.hid hgz
  have HZ := Lib.hid (show Bk u1 gz 32 #[.string ⟨#[]⟩, .string ⟨#[]⟩, .int .i64 0, .int .i64 0, .int .i64 0, .bool false] by rw [← hu1, ← hgz]; exact Bk.new _ _ _)
  have HLZ := Lib.hid h
  have HL := Lib.hid (h.on HB.out)
  have HM := Lib.hid (fun w => lmoment_ok now w)
  have HOW0 := Lib.hid (fun (hc : clkB now = true) => lown_ok HL.out ten s ep now hs hc)
  have HSP := Lib.hid (fun w => lspan_ok ttl w)
  obtain ⟨R, hR⟩ : ∃ R, renewL most b ten s ep now ttl = R := ⟨_, rfl⟩
  have hr := hR
  rw [hR]
  unfold renewL at hr
  obtain ⟨ow, how⟩ : ∃ ow, ownL b ten s ep now = ow := ⟨_, rfl⟩
  have hck1 : clkB now = false → ow.2 = 1 := fun hh => by rw [← how]; unfold ownL; rw [if_pos hh]
  have HZR := Lib.hid (show ow.2 = 0 → _ from fun hh => own_zero (by rw [how]; exact hh))
  simp only [how] at HOW0 hr
  obtain ⟨ck, hck⟩ : ∃ ck, clkB now = ck := ⟨_, rfl⟩
  obtain ⟨tk, htk⟩ : ∃ tk, timB ttl = tk := ⟨_, rfl⟩
  have HCK := Lib.hid hck
  have HTK := Lib.hid htk
  simp only [hck] at HM hck1
  simp only [htk] at HSP hr
  have HR := Lib.hid hr
  have HK1 := Lib.hid hck1
  clear hr hR hck htk hck1 h
  cases ck with
  | false =>
    have HS := Lib.hid (show R = (zeroLs, 1, b) by
      rw [← HR.out]
      cases tk with
      | false => rfl
      | true => rw [if_neg (by simp), if_neg (by rw [HK1.out rfl]; simp), HK1.out rfl])
    clear how
    go_enter Try.func14, Try.ntmps14
    go_upto_region 1 with fail
    try rw [hu1]
    try rw [hgz]
    clear hu1 hgz
    have z0 : u1.cell? ⟨gz, 0, none⟩ = some (.string ⟨#[]⟩) := HZ.out.cell 0
    have z1 : u1.cell? ⟨gz, 1, none⟩ = some (.string ⟨#[]⟩) := HZ.out.cell 1
    have z2 : u1.cell? ⟨gz, 2, none⟩ = some (.int .i64 0) := HZ.out.cell 2
    have z3 : u1.cell? ⟨gz, 3, none⟩ = some (.int .i64 0) := HZ.out.cell 3
    have z4 : u1.cell? ⟨gz, 4, none⟩ = some (.int .i64 0) := HZ.out.cell 4
    have z5 : u1.cell? ⟨gz, 5, none⟩ = some (.bool false) := HZ.out.cell 5
    have f0 := HZ.out.frozen 0
    have f1 := HZ.out.frozen 1
    have f2 := HZ.out.frozen 2
    have f3 := HZ.out.frozen 3
    have f4 := HZ.out.frozen 4
    have f5 := HZ.out.frozen 5
    go_wp2_with (go_at_call 35; (with_reducible refine (HM.out _).mono ?_); rintro e u5 ⟨rfl, hu⟩; rw [hu]; clear hu)
    have HU : Bk ((((((u1.setCell ⟨gz, 0, none⟩ (.string ⟨#[]⟩)).setCell ⟨gz, 1, none⟩ (.string ⟨#[]⟩)).setCell ⟨gz, 2, none⟩ (.int .i64 0)).setCell ⟨gz, 3, none⟩ (.int .i64 0)).setCell ⟨gz, 4, none⟩ (.int .i64 0)).setCell ⟨gz, 5, none⟩ (.bool false)) gz 32 #[.string ⟨#[]⟩, .string ⟨#[]⟩, .int .i64 0, .int .i64 0, .int .i64 0, .bool false] := HZ.out.set6 _ _ _ _ _ _
    have p0 := HU.cell 0; have p1 := HU.cell 1; have p2 := HU.cell 2; have p3 := HU.cell 3; have p4 := HU.cell 4; have p5 := HU.cell 5
    refine bodyPost_ret (v := .tuple #[.agg #[.string ⟨#[]⟩, .string ⟨#[]⟩, .int .i64 0, .int .i64 0, .int .i64 0, .bool false], .int .i64 1]) ?_ rfl ⟨by rw [HS.out]; rfl, by rw [HS.out]; exact HL.out.set6 (fun y hy => by have := HLZ.out.lt y hy; have := HGZ.out; omega) _ _ _ _ _ _, ke_set6' (Ke.nil (Ke.of HB.out)) (by rw [HGZ.out]; exact Nat.le_refl _) _ _ _ _ _ _⟩
    try simp [results, Try.f14, go_sem, p0, p1, p2, p3, p4, p5]
  | true =>
    cases tk with
    | false =>
      have HS := Lib.hid (show R = (zeroLs, 1, b) by rw [← HR.out]; rfl)
      clear how
      go_enter Try.func14, Try.ntmps14
      go_upto_region 1 with fail
      try rw [hu1]
      try rw [hgz]
      clear hu1 hgz
      have z0 : u1.cell? ⟨gz, 0, none⟩ = some (.string ⟨#[]⟩) := HZ.out.cell 0
      have z1 : u1.cell? ⟨gz, 1, none⟩ = some (.string ⟨#[]⟩) := HZ.out.cell 1
      have z2 : u1.cell? ⟨gz, 2, none⟩ = some (.int .i64 0) := HZ.out.cell 2
      have z3 : u1.cell? ⟨gz, 3, none⟩ = some (.int .i64 0) := HZ.out.cell 3
      have z4 : u1.cell? ⟨gz, 4, none⟩ = some (.int .i64 0) := HZ.out.cell 4
      have z5 : u1.cell? ⟨gz, 5, none⟩ = some (.bool false) := HZ.out.cell 5
      have f0 := HZ.out.frozen 0
      have f1 := HZ.out.frozen 1
      have f2 := HZ.out.frozen 2
      have f3 := HZ.out.frozen 3
      have f4 := HZ.out.frozen 4
      have f5 := HZ.out.frozen 5
      go_wp2_with (first | (go_at_call 35; (with_reducible refine (HM.out _).mono ?_); rintro e u5 ⟨rfl, hu⟩; rw [hu]; clear hu) | (go_at_call 33; (with_reducible refine (HSP.out _).mono ?_); rintro e u5 ⟨rfl, hu⟩; rw [hu]; clear hu))
      have HU : Bk ((((((u1.setCell ⟨gz, 0, none⟩ (.string ⟨#[]⟩)).setCell ⟨gz, 1, none⟩ (.string ⟨#[]⟩)).setCell ⟨gz, 2, none⟩ (.int .i64 0)).setCell ⟨gz, 3, none⟩ (.int .i64 0)).setCell ⟨gz, 4, none⟩ (.int .i64 0)).setCell ⟨gz, 5, none⟩ (.bool false)) gz 32 #[.string ⟨#[]⟩, .string ⟨#[]⟩, .int .i64 0, .int .i64 0, .int .i64 0, .bool false] := HZ.out.set6 _ _ _ _ _ _
      have p0 := HU.cell 0; have p1 := HU.cell 1; have p2 := HU.cell 2; have p3 := HU.cell 3; have p4 := HU.cell 4; have p5 := HU.cell 5
      refine bodyPost_ret (v := .tuple #[.agg #[.string ⟨#[]⟩, .string ⟨#[]⟩, .int .i64 0, .int .i64 0, .int .i64 0, .bool false], .int .i64 1]) ?_ rfl ⟨by rw [HS.out]; rfl, by rw [HS.out]; exact HL.out.set6 (fun y hy => by have := HLZ.out.lt y hy; have := HGZ.out; omega) _ _ _ _ _ _, ke_set6' (Ke.nil (Ke.of HB.out)) (by rw [HGZ.out]; exact Nat.le_refl _) _ _ _ _ _ _⟩
      try simp [results, Try.f14, go_sem, p0, p1, p2, p3, p4, p5]
    | true =>
      have HOW := Lib.hid (HOW0.out HCK.out)
      unfold OwP at HOW
      obtain ⟨er, her⟩ : ∃ er, ow.2 = er := ⟨_, rfl⟩
      simp only [her] at HOW
      by_cases he : er = 0
      · obtain ⟨x, hf, hx1, hhe, -, -, -⟩ := HZR.out (her.trans he)
        rw [how] at hx1
        obtain ⟨hxn, hxm⟩ := fn_name hf
        have hc := HCK.out
        have ht := HTK.out
        unfold clkB at hc
        unfold timB at ht
        simp only [Bool.and_eq_true, decide_eq_true_eq] at hc ht
        obtain ⟨hn1, hn2⟩ := hc
        obtain ⟨ht1, ht2⟩ := ht
        have hm1 := HL.out.ok.m1
        have hm2 := HL.out.ok.m2
        obtain ⟨M, rfl⟩ := Int.eq_ofNat_of_zero_le (show 0 ≤ most by omega)
        obtain ⟨N, rfl⟩ := Int.eq_ofNat_of_zero_le hn1
        obtain ⟨D, rfl⟩ := Int.eq_ofNat_of_zero_le (show 0 ≤ ttl by omega)
        obtain ⟨Q, hQ⟩ : ∃ Q : Nat, min (D : Int) (M : Int) = (Q : Int) := ⟨min D M, by omega⟩
        obtain ⟨S, hS⟩ : ∃ S : Nat, (N : Int) + (Q : Int) = (S : Int) := ⟨N + Q, by omega⟩
        have HU := Lib.hid (luntil_ok u1 gb mb g b.nx N M D Q S HL.out.blk hQ hS (by omega))
        have HS := Lib.hid (show R = ({ x with till := (S : Int) }, 0, (⟨ptL { x with till := (S : Int) } b.l, b.nx⟩ : Bo)) by
          rw [← HR.out, if_neg (by simp), if_pos (her.trans he), hx1, hQ, hS])
        have HTX := Lib.hid (show TlL { x with till := (S : Int) } from ⟨by show (0 : Int) ≤ (S : Int); omega, by show (S : Int) ≤ _; omega, fun _ => by show (S : Int) ≤ _; omega⟩)
        have HX := Lib.hid (HL.out.each x hxm)
        have HXM := Lib.hid hxm
        obtain ⟨ax, hax⟩ : ∃ ax, ad x.name = ax := ⟨_, rfl⟩
        have HAX := Lib.hid hax
        have hax2 : ad s = ax := by rw [← hxn]; exact hax
        rw [he, if_pos rfl, hax2] at HOW
        rw [hax] at HX
        have HAL := Lib.hid (show ax ∈ lbs ad b.l by rw [← hax]; exact List.mem_map.2 ⟨x, hxm, rfl⟩)
        have HGN := Lib.hid (show gz ≠ ax by rw [← hax]; have := (HLZ.out.each x hxm).lt; have := HGZ.out; omega)
        clear hf hx1 hhe hxn hxm hn1 hn2 ht1 ht2 hm1 hm2 hQ hS hax hax2 how he her HR HOW0
        obtain ⟨xn, xt, xc, xe, xu, xh⟩ := x
        dsimp only [lsc] at HX
        go_enter Try.func14, Try.ntmps14
        go_upto_region 1 with fail
        try rw [hu1]
        try rw [hgz]
        clear hu1 hgz
        go_upto_region 6 with (first | (go_at_call 35; (with_reducible refine (HM.out _).mono ?_); rintro e u5 ⟨rfl, hu⟩; rw [hu]; clear hu) | (go_at_call 33; (with_reducible refine (HSP.out _).mono ?_); rintro e u5 ⟨rfl, hu⟩; rw [hu]; clear hu) | (go_at_call 36; (with_reducible refine HOW.out.mono ?_); rintro e u5 ⟨rfl, hu⟩; rw [hu]; clear hu))
        go_upto_region 7 with (go_at_call 37; (with_reducible refine HU.out.mono ?_); rintro e u5 ⟨rfl, hu⟩; rw [hu]; clear hu; have x4 : u1.cell? ⟨ax, 4, none⟩ = some (.int .i64 xu) := HX.out.cell 4; have f4 := HX.out.frozen 4)
        obtain ⟨u2, hu2⟩ : ∃ u2, u1.setCell ⟨ax, 4, none⟩ (.int .i64 (S : Int)) = u2 := ⟨_, rfl⟩
        have HX2 := Lib.hid (show Bk u2 ax 32 #[.string xn, .string xt, .int .i64 xc, .int .i64 xe, .int .i64 ((S : Int)), .bool xh] by rw [← hu2]; simpa only [List.setIfInBounds_toArray, List.set_cons_zero, List.set_cons_succ] using HX.out.set 4 (.int .i64 (S : Int)))
        have HK2 := Lib.hid (show Ke [ax] u1 u2 by rw [← hu2]; exact (Ke.refl [ax] u1).set (p := ⟨ax, 4, none⟩) (List.mem_singleton.2 rfl) _)
        have HZ2 := Lib.hid (HZ.out.ke HK2.out (fun hm => HGN.out (List.mem_singleton.1 hm)))
        try rw [hu2]
        clear hu2 x4 f4
        have HZP := Lib.hid (HL.out.turn1 HXM.out (z := ⟨xn, xt, xc, xe, (S : Int), xh⟩) rfl (by rw [HAX.out]; exact HK2.out) (by rw [HAX.out]; exact HX2.out) HTX.out)
        have HFT := Lib.hid (ft_pt (gb := gb) (mb := mb) (ad := ad) (x := ⟨xn, xt, xc, xe, (S : Int), xh⟩) (n := b.nx) HL.out.ok.up (show fnL xn b.l = some (⟨xn, xt, xc, xe, xu, xh⟩ : Ls) from fn_of_mem HL.out.ok.up HXM.out))
        have x0 : u2.cell? ⟨ax, 0, none⟩ = some (.string xn) := HX2.out.cell 0
        have x1 : u2.cell? ⟨ax, 1, none⟩ = some (.string xt) := HX2.out.cell 1
        have x2 : u2.cell? ⟨ax, 2, none⟩ = some (.int .i64 xc) := HX2.out.cell 2
        have x3 : u2.cell? ⟨ax, 3, none⟩ = some (.int .i64 xe) := HX2.out.cell 3
        have x4 : u2.cell? ⟨ax, 4, none⟩ = some (.int .i64 ((S : Int))) := HX2.out.cell 4
        have x5 : u2.cell? ⟨ax, 5, none⟩ = some (.bool xh) := HX2.out.cell 5
        have k0 := HX2.out.frozen 0
        have k1 := HX2.out.frozen 1
        have k2 := HX2.out.frozen 2
        have k3 := HX2.out.frozen 3
        have k4 := HX2.out.frozen 4
        have k5 := HX2.out.frozen 5
        have z0 : u2.cell? ⟨gz, 0, none⟩ = some (.string ⟨#[]⟩) := HZ2.out.cell 0
        have z1 : u2.cell? ⟨gz, 1, none⟩ = some (.string ⟨#[]⟩) := HZ2.out.cell 1
        have z2 : u2.cell? ⟨gz, 2, none⟩ = some (.int .i64 0) := HZ2.out.cell 2
        have z3 : u2.cell? ⟨gz, 3, none⟩ = some (.int .i64 0) := HZ2.out.cell 3
        have z4 : u2.cell? ⟨gz, 4, none⟩ = some (.int .i64 0) := HZ2.out.cell 4
        have z5 : u2.cell? ⟨gz, 5, none⟩ = some (.bool false) := HZ2.out.cell 5
        have f0 := HZ2.out.frozen 0
        have f1 := HZ2.out.frozen 1
        have f2 := HZ2.out.frozen 2
        have f3 := HZ2.out.frozen 3
        have f4 := HZ2.out.frozen 4
        have f5 := HZ2.out.frozen 5
        go_wp2
        have HU : Bk ((((((u2.setCell ⟨gz, 0, none⟩ (.string xn)).setCell ⟨gz, 1, none⟩ (.string xt)).setCell ⟨gz, 2, none⟩ (.int .i64 xc)).setCell ⟨gz, 3, none⟩ (.int .i64 xe)).setCell ⟨gz, 4, none⟩ (.int .i64 ((S : Int)))).setCell ⟨gz, 5, none⟩ (.bool xh)) gz 32 #[.string xn, .string xt, .int .i64 xc, .int .i64 xe, .int .i64 ((S : Int)), .bool xh] := HZ2.out.set6 _ _ _ _ _ _
        have p0 := HU.cell 0; have p1 := HU.cell 1; have p2 := HU.cell 2; have p3 := HU.cell 3; have p4 := HU.cell 4; have p5 := HU.cell 5
        refine bodyPost_ret (v := .tuple #[.agg #[.string xn, .string xt, .int .i64 xc, .int .i64 xe, .int .i64 ((S : Int)), .bool xh], .int .i64 0]) ?_ rfl ⟨by rw [HS.out]; try rfl, by rw [HS.out]; exact HZP.out.set6 (fun y hy => by rw [HFT.out] at hy; have := HLZ.out.lt y hy; have := HGZ.out; omega) _ _ _ _ _ _, ke_set6' ((Ke.nil (Ke.of HB.out)).trans (HK2.out.more (fun y hy => by rw [List.mem_singleton.1 hy]; exact HAL.out))) (by rw [HGZ.out]; exact Nat.le_refl _) _ _ _ _ _ _⟩
        try simp [results, Try.f14, go_sem, p0, p1, p2, p3, p4, p5]
      · have he2 : (er != 0) = true := by simp [he]
        have HS := Lib.hid (show R = (zeroLs, er, b) by rw [← HR.out, if_neg (by simp), if_neg (by rw [her]; exact he), her])
        rw [if_neg he] at HOW
        clear he how her HR HOW0
        go_enter Try.func14, Try.ntmps14
        go_upto_region 1 with fail
        try rw [hu1]
        try rw [hgz]
        clear hu1 hgz
        have z0 : u1.cell? ⟨gz, 0, none⟩ = some (.string ⟨#[]⟩) := HZ.out.cell 0
        have z1 : u1.cell? ⟨gz, 1, none⟩ = some (.string ⟨#[]⟩) := HZ.out.cell 1
        have z2 : u1.cell? ⟨gz, 2, none⟩ = some (.int .i64 0) := HZ.out.cell 2
        have z3 : u1.cell? ⟨gz, 3, none⟩ = some (.int .i64 0) := HZ.out.cell 3
        have z4 : u1.cell? ⟨gz, 4, none⟩ = some (.int .i64 0) := HZ.out.cell 4
        have z5 : u1.cell? ⟨gz, 5, none⟩ = some (.bool false) := HZ.out.cell 5
        have f0 := HZ.out.frozen 0
        have f1 := HZ.out.frozen 1
        have f2 := HZ.out.frozen 2
        have f3 := HZ.out.frozen 3
        have f4 := HZ.out.frozen 4
        have f5 := HZ.out.frozen 5
        go_wp2_with (first | (go_at_call 35; (with_reducible refine (HM.out _).mono ?_); rintro e u5 ⟨rfl, hu⟩; rw [hu]; clear hu) | (go_at_call 33; (with_reducible refine (HSP.out _).mono ?_); rintro e u5 ⟨rfl, hu⟩; rw [hu]; clear hu) | (go_at_call 36; (with_reducible refine HOW.out.mono ?_); rintro e u5 ⟨rfl, hu⟩; rw [hu]; clear hu))
        have HU : Bk ((((((u1.setCell ⟨gz, 0, none⟩ (.string ⟨#[]⟩)).setCell ⟨gz, 1, none⟩ (.string ⟨#[]⟩)).setCell ⟨gz, 2, none⟩ (.int .i64 0)).setCell ⟨gz, 3, none⟩ (.int .i64 0)).setCell ⟨gz, 4, none⟩ (.int .i64 0)).setCell ⟨gz, 5, none⟩ (.bool false)) gz 32 #[.string ⟨#[]⟩, .string ⟨#[]⟩, .int .i64 0, .int .i64 0, .int .i64 0, .bool false] := HZ.out.set6 _ _ _ _ _ _
        have p0 := HU.cell 0; have p1 := HU.cell 1; have p2 := HU.cell 2; have p3 := HU.cell 3; have p4 := HU.cell 4; have p5 := HU.cell 5
        refine bodyPost_ret (v := .tuple #[.agg #[.string ⟨#[]⟩, .string ⟨#[]⟩, .int .i64 0, .int .i64 0, .int .i64 0, .bool false], .int .i64 er]) ?_ rfl ⟨by rw [HS.out]; rfl, by rw [HS.out]; exact HL.out.set6 (fun y hy => by have := HLZ.out.lt y hy; have := HGZ.out; omega) _ _ _ _ _ _, ke_set6' (Ke.nil (Ke.of HB.out)) (by rw [HGZ.out]; exact Nat.le_refl _) _ _ _ _ _ _⟩
        try simp [results, Try.f14, go_sem, p0, p1, p2, p3, p4, p5]
/-- What Release leaves. -/
structure RlP (gb mb : Nat) (ad : ByteArray → Nat) (g most : Int) (F : List Nat) (R : Int × Bo) (u : World) (e : Ending) (u' : World) : Prop where
  e : e = .returned (.int .i64 R.1)
  z : Lz u' gb mb ad g most R.2
  k : Ke F u u'
set_option maxRecDepth 100000 in
set_option maxHeartbeats 4000000 in
theorem lrelease_ok {u : World} {gb mb : Nat} {ad : ByteArray → Nat} {g most : Int} {b : Bo} (h : Lz u gb mb ad g most b) (ten s : ByteArray) (ep now : Int) (hs : s.size ≤ 140737488355328) :
    Calls Try.prog 16 #[.pointer (some ⟨gb, 0, none⟩), .string ten, .string s, .int .i64 ep, .int .i64 now] u (RlP gb mb ad g most (lbs ad b.l) (releaseL g b ten s ep now) u) := by
  have HL := Lib.hid h
  have HM := Lib.hid (fun w => lmoment_ok now w)
  have HOW0 := Lib.hid (fun (hc : clkB now = true) => lown_ok HL.out ten s ep now hs hc)
  obtain ⟨R, hR⟩ : ∃ R, releaseL g b ten s ep now = R := ⟨_, rfl⟩
  have hr := hR
  rw [hR]
  unfold releaseL at hr
  obtain ⟨ow, how⟩ : ∃ ow, ownL b ten s ep now = ow := ⟨_, rfl⟩
  have hck1 : clkB now = false → ow.2 = 1 := fun hh => by rw [← how]; unfold ownL; rw [if_pos hh]
  have HZR := Lib.hid (show ow.2 = 0 → _ from fun hh => own_zero (by rw [how]; exact hh))
  simp only [how] at HOW0 hr
  obtain ⟨ck, hck⟩ : ∃ ck, clkB now = ck := ⟨_, rfl⟩
  have HCK := Lib.hid hck
  simp only [hck] at HM hck1
  have HR := Lib.hid hr
  have HK1 := Lib.hid hck1
  clear hr hR hck hck1 h
  cases ck with
  | false =>
    have HS := Lib.hid (show R = (1, b) by rw [← HR.out, if_neg (by rw [HK1.out rfl]; simp), HK1.out rfl])
    clear how
    go_enter Try.func16, Try.ntmps16
    go_wp2_with (go_at_call 35; (with_reducible refine (HM.out _).mono ?_); rintro e u5 ⟨rfl, hu⟩; rw [hu]; clear hu)
    go_ret
    exact ⟨by rw [HS.out]; rfl, by rw [HS.out]; exact HL.out, Ke.refl _ _⟩
  | true =>
    have HOW := Lib.hid (HOW0.out HCK.out)
    unfold OwP at HOW
    obtain ⟨er, her⟩ : ∃ er, ow.2 = er := ⟨_, rfl⟩
    simp only [her] at HOW
    by_cases he : er = 0
    · obtain ⟨x, hf, hx1, hhe, -, -, -⟩ := HZR.out (her.trans he)
      rw [how] at hx1
      obtain ⟨hxn, hxm⟩ := fn_name hf
      have hc := HCK.out
      unfold clkB at hc
      simp only [Bool.and_eq_true, decide_eq_true_eq] at hc
      obtain ⟨hn1, hn2⟩ := hc
      have hg1 := HL.out.ok.g1
      have hg2 := HL.out.ok.g2
      obtain ⟨W, hW⟩ := Int.eq_ofNat_of_zero_le (show 0 ≤ now + g by omega)
      have HS := Lib.hid (show R = (0, (⟨ptL { x with held := false, till := now + g } b.l, b.nx⟩ : Bo)) by
        rw [← HR.out, if_pos (her.trans he), hx1])
      have HTX := Lib.hid (show TlL { x with held := false, till := now + g } from ⟨by show 0 ≤ now + g; omega, by show now + g ≤ _; omega, fun hq => by cases hq⟩)
      have HX := Lib.hid (HL.out.each x hxm)
      have HXM := Lib.hid hxm
      have HKP := Lib.hid (lkeep_ok u gb mb (ad x.name) g most b.nx x now (now + g) HL.out.blk HX.out (((iwrap (now + g) W hW (by omega)).1).trans hW.symm))
      obtain ⟨ax, hax⟩ : ∃ ax, ad x.name = ax := ⟨_, rfl⟩
      have HAX := Lib.hid hax
      have hax2 : ad s = ax := by rw [← hxn]; exact hax
      rw [he, if_pos rfl, hax2] at HOW
      rw [hax] at HX HKP
      have HAL := Lib.hid (show ax ∈ lbs ad b.l by rw [← hax]; exact List.mem_map.2 ⟨x, hxm, rfl⟩)
      clear hf hx1 hhe hxn hxm hn1 hn2 hg1 hg2 hW hax hax2 how he her HR HOW0
      go_enter Try.func16, Try.ntmps16
      go_wp2_with (first | (go_at_call 35; (with_reducible refine (HM.out _).mono ?_); rintro e u5 ⟨rfl, hu⟩; rw [hu]; clear hu) | (go_at_call 36; (with_reducible refine HOW.out.mono ?_); rintro e u5 ⟨rfl, hu⟩; rw [hu]; clear hu) | (go_at_call 40; (with_reducible refine HKP.out.mono ?_); rintro e w5 ⟨rfl, hk5, hke5⟩; have HX5 := Lib.hid hk5; have HKE5 := Lib.hid hke5; clear hk5 hke5))
      go_ret
      exact ⟨by rw [HS.out]; rfl, by rw [HS.out]; exact HL.out.turn1 HXM.out (z := { x with held := false, till := now + g }) rfl (by rw [HAX.out]; exact HKE5.out) (by rw [HAX.out]; exact HX5.out) HTX.out, HKE5.out.more (fun y hy => by rw [List.mem_singleton.1 hy]; exact HAL.out)⟩
    · have he2 : (er != 0) = true := by simp [he]
      have HS := Lib.hid (show R = (er, b) by rw [← HR.out, if_neg (by rw [her]; exact he), her])
      rw [if_neg he] at HOW
      clear he how her HR HOW0
      go_enter Try.func16, Try.ntmps16
      go_wp2_with (first | (go_at_call 35; (with_reducible refine (HM.out _).mono ?_); rintro e u5 ⟨rfl, hu⟩; rw [hu]; clear hu) | (go_at_call 36; (with_reducible refine HOW.out.mono ?_); rintro e u5 ⟨rfl, hu⟩; rw [hu]; clear hu))
      go_ret
      exact ⟨by rw [HS.out]; rfl, by rw [HS.out]; exact HL.out, Ke.refl _ _⟩
/-- What Evict leaves. -/
structure EvP (gb mb : Nat) (ad : ByteArray → Nat) (g most : Int) (R : Option Ls × Bo) (u : World) (e : Ending) (u' : World) : Prop where
  e : e = .returned (.tuple #[.agg (lsc (R.1.getD zeroLs)), .bool R.1.isSome])
  z : Lz u' gb mb ad g most R.2
  k : Ke [mb] u u'
set_option maxRecDepth 100000 in
set_option maxHeartbeats 4000000 in
theorem levict_ok {u : World} {gb mb : Nat} {ad : ByteArray → Nat} {g most : Int} {b : Bo} (h : Lz u gb mb ad g most b) (s : ByteArray) (now : Int) (hs : s.size ≤ 140737488355328) :
    Calls Try.prog 18 #[.pointer (some ⟨gb, 0, none⟩), .string s, .int .i64 now] u (EvP gb mb ad g most (evictL b s now) u) := by
  obtain ⟨u1, hu1⟩ : ∃ u1, u.alloc (.cells #[.string ⟨#[]⟩, .string ⟨#[]⟩, .int .i64 0, .int .i64 0, .int .i64 0, .bool false] 32) = u1 := ⟨_, rfl⟩
  have HB := Lib.hid (show Below u.heap.size u u1 by rw [← hu1]; exact (Below.refl _ _).alloc (Nat.le_refl _) _)
  obtain ⟨gz, hgz⟩ : ∃ gz, u.heap.size = gz := ⟨_, rfl⟩
  have HGZ := Lib.hid hgz
  have HZ := Lib.hid (show Bk u1 gz 32 #[.string ⟨#[]⟩, .string ⟨#[]⟩, .int .i64 0, .int .i64 0, .int .i64 0, .bool false] by rw [← hu1, ← hgz]; exact Bk.new _ _ _)
  have HLZ := Lib.hid h
  have HL := Lib.hid (h.on HB.out)
  have HM := Lib.hid (fun w => lmoment_ok now w)
  have HHO := Lib.hid (lholder_ok HL.out s now hs)
  have HSS := Lib.hid hs
  obtain ⟨R, hR⟩ : ∃ R, evictL b s now = R := ⟨_, rfl⟩
  have hr := hR
  rw [hR]
  unfold evictL at hr
  obtain ⟨ck, hck⟩ : ∃ ck, clkB now = ck := ⟨_, rfl⟩
  obtain ⟨hd, hhd⟩ : ∃ hd, holdL b s now = hd := ⟨_, rfl⟩
  simp only [hck] at HM hr
  simp only [hhd] at HHO hr
  have HR := Lib.hid hr
  clear hr hR hck hhd h
  cases ck with
  | false =>
    have HS := Lib.hid (show R = (none, b) by rw [← HR.out]; rfl)
    go_enter Try.func18, Try.ntmps18
    go_upto_region 1 with fail
    try rw [hu1]
    try rw [hgz]
    clear hu1 hgz
    have z0 : u1.cell? ⟨gz, 0, none⟩ = some (.string ⟨#[]⟩) := HZ.out.cell 0
    have z1 : u1.cell? ⟨gz, 1, none⟩ = some (.string ⟨#[]⟩) := HZ.out.cell 1
    have z2 : u1.cell? ⟨gz, 2, none⟩ = some (.int .i64 0) := HZ.out.cell 2
    have z3 : u1.cell? ⟨gz, 3, none⟩ = some (.int .i64 0) := HZ.out.cell 3
    have z4 : u1.cell? ⟨gz, 4, none⟩ = some (.int .i64 0) := HZ.out.cell 4
    have z5 : u1.cell? ⟨gz, 5, none⟩ = some (.bool false) := HZ.out.cell 5
    have f0 := HZ.out.frozen 0
    have f1 := HZ.out.frozen 1
    have f2 := HZ.out.frozen 2
    have f3 := HZ.out.frozen 3
    have f4 := HZ.out.frozen 4
    have f5 := HZ.out.frozen 5
    go_wp2_with (go_at_call 35; (with_reducible refine (HM.out _).mono ?_); rintro e u5 ⟨rfl, hu⟩; rw [hu]; clear hu)
    have HU : Bk ((((((u1.setCell ⟨gz, 0, none⟩ (.string ⟨#[]⟩)).setCell ⟨gz, 1, none⟩ (.string ⟨#[]⟩)).setCell ⟨gz, 2, none⟩ (.int .i64 0)).setCell ⟨gz, 3, none⟩ (.int .i64 0)).setCell ⟨gz, 4, none⟩ (.int .i64 0)).setCell ⟨gz, 5, none⟩ (.bool false)) gz 32 #[.string ⟨#[]⟩, .string ⟨#[]⟩, .int .i64 0, .int .i64 0, .int .i64 0, .bool false] := HZ.out.set6 _ _ _ _ _ _
    have p0 := HU.cell 0; have p1 := HU.cell 1; have p2 := HU.cell 2; have p3 := HU.cell 3; have p4 := HU.cell 4; have p5 := HU.cell 5
    refine bodyPost_ret (v := .tuple #[.agg #[.string ⟨#[]⟩, .string ⟨#[]⟩, .int .i64 0, .int .i64 0, .int .i64 0, .bool false], .bool false]) ?_ rfl ⟨by rw [HS.out]; rfl, by rw [HS.out]; exact HL.out.set6 (fun y hy => by have := HLZ.out.lt y hy; have := HGZ.out; omega) _ _ _ _ _ _, ke_set6' (Ke.nil (Ke.of HB.out)) (by rw [HGZ.out]; exact Nat.le_refl _) _ _ _ _ _ _⟩
    try simp [results, Try.f18, go_sem, p0, p1, p2, p3, p4, p5]
  | true =>
    obtain ⟨y, hy⟩ : ∃ y, hd.getD zeroLs = y := ⟨_, rfl⟩
    obtain ⟨is, his⟩ : ∃ is, hd.isSome = is := ⟨_, rfl⟩
    rw [hy, his] at HHO
    have HS := Lib.hid (show R = (hd, if is = true then (⟨drL s b.l, b.nx⟩ : Bo) else b) by
      rw [← HR.out, ← his]
      cases hd <;> rfl)
    have HHY := Lib.hid (And.intro hy his)
    clear hy his
    obtain ⟨xn, xt, xc, xe, xu, xh⟩ := y
    dsimp only [lsc] at HHO
    go_enter Try.func18, Try.ntmps18
    go_upto_region 1 with fail
    try rw [hu1]
    try rw [hgz]
    clear hu1 hgz
    go_upto_region 4 with (first | (go_at_call 35; (with_reducible refine (HM.out _).mono ?_); rintro e u5 ⟨rfl, hu⟩; rw [hu]; clear hu) | (go_at_call 27; (with_reducible refine HHO.out.mono ?_); rintro e u2 ⟨rfl, hb⟩; have HB2 := Lib.hid hb; clear hb))
    obtain ⟨gx, hgx⟩ : ∃ gx, u2.heap.size = gx := ⟨_, rfl⟩
    obtain ⟨u3, hu3⟩ : ∃ u3, u2.alloc (.cells #[.string xn, .string xt, .int .i64 xc, .int .i64 xe, .int .i64 xu, .bool xh] 32) = u3 := ⟨_, rfl⟩
    have HB3 := Lib.hid (show Below u1.heap.size u1 u3 by rw [← hu3]; exact HB2.out.alloc HB2.out.size _)
    have HX3 := Lib.hid (show Bk u3 gx 32 #[.string xn, .string xt, .int .i64 xc, .int .i64 xe, .int .i64 xu, .bool xh] by rw [← hu3, ← hgx]; exact Bk.new _ _ _)
    have HZ3 := Lib.hid (HZ.out.below HB3.out HZ.out.lt)
    have HL3 := Lib.hid (HL.out.on HB3.out)
    have HB13 := Lib.hid (HB.out.trans (HB3.out.mono HB.out.size))
    try dsimp only
    rw [hu3]
    try rw [hgx]
    clear hu3 hgx
    cases is with
    | false =>
      have x0 : u3.cell? ⟨gx, 0, none⟩ = some (.string xn) := HX3.out.cell 0
      have x1 : u3.cell? ⟨gx, 1, none⟩ = some (.string xt) := HX3.out.cell 1
      have x2 : u3.cell? ⟨gx, 2, none⟩ = some (.int .i64 xc) := HX3.out.cell 2
      have x3 : u3.cell? ⟨gx, 3, none⟩ = some (.int .i64 xe) := HX3.out.cell 3
      have x4 : u3.cell? ⟨gx, 4, none⟩ = some (.int .i64 xu) := HX3.out.cell 4
      have x5 : u3.cell? ⟨gx, 5, none⟩ = some (.bool xh) := HX3.out.cell 5
      have k0 := HX3.out.frozen 0
      have k1 := HX3.out.frozen 1
      have k2 := HX3.out.frozen 2
      have k3 := HX3.out.frozen 3
      have k4 := HX3.out.frozen 4
      have k5 := HX3.out.frozen 5
      have z0 : u3.cell? ⟨gz, 0, none⟩ = some (.string ⟨#[]⟩) := HZ3.out.cell 0
      have z1 : u3.cell? ⟨gz, 1, none⟩ = some (.string ⟨#[]⟩) := HZ3.out.cell 1
      have z2 : u3.cell? ⟨gz, 2, none⟩ = some (.int .i64 0) := HZ3.out.cell 2
      have z3 : u3.cell? ⟨gz, 3, none⟩ = some (.int .i64 0) := HZ3.out.cell 3
      have z4 : u3.cell? ⟨gz, 4, none⟩ = some (.int .i64 0) := HZ3.out.cell 4
      have z5 : u3.cell? ⟨gz, 5, none⟩ = some (.bool false) := HZ3.out.cell 5
      have f0 := HZ3.out.frozen 0
      have f1 := HZ3.out.frozen 1
      have f2 := HZ3.out.frozen 2
      have f3 := HZ3.out.frozen 3
      have f4 := HZ3.out.frozen 4
      have f5 := HZ3.out.frozen 5
      go_wp2
      have HU : Bk ((((((u3.setCell ⟨gz, 0, none⟩ (.string xn)).setCell ⟨gz, 1, none⟩ (.string xt)).setCell ⟨gz, 2, none⟩ (.int .i64 xc)).setCell ⟨gz, 3, none⟩ (.int .i64 xe)).setCell ⟨gz, 4, none⟩ (.int .i64 xu)).setCell ⟨gz, 5, none⟩ (.bool xh)) gz 32 #[.string xn, .string xt, .int .i64 xc, .int .i64 xe, .int .i64 xu, .bool xh] := HZ3.out.set6 _ _ _ _ _ _
      have p0 := HU.cell 0; have p1 := HU.cell 1; have p2 := HU.cell 2; have p3 := HU.cell 3; have p4 := HU.cell 4; have p5 := HU.cell 5
      refine bodyPost_ret (v := .tuple #[.agg #[.string xn, .string xt, .int .i64 xc, .int .i64 xe, .int .i64 xu, .bool xh], .bool false]) ?_ rfl ⟨by rw [HS.out, HHY.out.1, HHY.out.2], by rw [HS.out]; exact HL3.out.set6 (fun y hy => by have := HLZ.out.lt y hy; have := HGZ.out; omega) _ _ _ _ _ _, ke_set6' (Ke.nil (Ke.of HB13.out)) (by rw [HGZ.out]; exact Nat.le_refl _) _ _ _ _ _ _⟩
      try simp [results, Try.f18, go_sem, p0, p1, p2, p3, p4, p5]
    | true =>
      obtain ⟨w9, hrun, hm9, hk9⟩ := HL3.out.mp.drop s HSS.out 0
      have g3 : u3.cell? ⟨gb, 3, none⟩ = some (.map (some mb)) := HL3.out.blk.cell 3
      have HM9 := Lib.hid hm9
      have HK9 := Lib.hid hk9
      have HNM := Lib.hid (show ∀ k t cs, Bk u3 k t cs → Bk w9 k t cs from fun k t cs hk => hk.ke hk9 (fun hm => by
        rw [List.mem_singleton.1 hm] at hk
        obtain ⟨es, ck, hq⟩ := HL3.out.mp.block
        have h3 : u3.heap[mb]? = some (.cells cs t (0, 0)) := hk
        rw [h3] at hq
        cases hq))
      have HX9 := Lib.hid (HNM.out _ _ _ HX3.out)
      have HZ9 := Lib.hid (HNM.out _ _ _ HZ3.out)
      clear hm9 hk9
      have x0 : w9.cell? ⟨gx, 0, none⟩ = some (.string xn) := HX9.out.cell 0
      have x1 : w9.cell? ⟨gx, 1, none⟩ = some (.string xt) := HX9.out.cell 1
      have x2 : w9.cell? ⟨gx, 2, none⟩ = some (.int .i64 xc) := HX9.out.cell 2
      have x3 : w9.cell? ⟨gx, 3, none⟩ = some (.int .i64 xe) := HX9.out.cell 3
      have x4 : w9.cell? ⟨gx, 4, none⟩ = some (.int .i64 xu) := HX9.out.cell 4
      have x5 : w9.cell? ⟨gx, 5, none⟩ = some (.bool xh) := HX9.out.cell 5
      have k0 := HX9.out.frozen 0
      have k1 := HX9.out.frozen 1
      have k2 := HX9.out.frozen 2
      have k3 := HX9.out.frozen 3
      have k4 := HX9.out.frozen 4
      have k5 := HX9.out.frozen 5
      have z0 : w9.cell? ⟨gz, 0, none⟩ = some (.string ⟨#[]⟩) := HZ9.out.cell 0
      have z1 : w9.cell? ⟨gz, 1, none⟩ = some (.string ⟨#[]⟩) := HZ9.out.cell 1
      have z2 : w9.cell? ⟨gz, 2, none⟩ = some (.int .i64 0) := HZ9.out.cell 2
      have z3 : w9.cell? ⟨gz, 3, none⟩ = some (.int .i64 0) := HZ9.out.cell 3
      have z4 : w9.cell? ⟨gz, 4, none⟩ = some (.int .i64 0) := HZ9.out.cell 4
      have z5 : w9.cell? ⟨gz, 5, none⟩ = some (.bool false) := HZ9.out.cell 5
      have f0 := HZ9.out.frozen 0
      have f1 := HZ9.out.frozen 1
      have f2 := HZ9.out.frozen 2
      have f3 := HZ9.out.frozen 3
      have f4 := HZ9.out.frozen 4
      have f5 := HZ9.out.frozen 5
      go_wp2
      have HU : Bk ((((((w9.setCell ⟨gz, 0, none⟩ (.string xn)).setCell ⟨gz, 1, none⟩ (.string xt)).setCell ⟨gz, 2, none⟩ (.int .i64 xc)).setCell ⟨gz, 3, none⟩ (.int .i64 xe)).setCell ⟨gz, 4, none⟩ (.int .i64 xu)).setCell ⟨gz, 5, none⟩ (.bool xh)) gz 32 #[.string xn, .string xt, .int .i64 xc, .int .i64 xe, .int .i64 xu, .bool xh] := HZ9.out.set6 _ _ _ _ _ _
      have p0 := HU.cell 0; have p1 := HU.cell 1; have p2 := HU.cell 2; have p3 := HU.cell 3; have p4 := HU.cell 4; have p5 := HU.cell 5
      refine bodyPost_ret (v := .tuple #[.agg #[.string xn, .string xt, .int .i64 xc, .int .i64 xe, .int .i64 xu, .bool xh], .bool true]) ?_ rfl ⟨by rw [HS.out, HHY.out.1, HHY.out.2], by rw [HS.out]; exact (HL3.out.del s HK9.out HM9.out).set6 (fun y hy => by have := HLZ.out.lt y (ft_del y hy); have := HGZ.out; omega) _ _ _ _ _ _, ke_set6' ((Ke.nil (Ke.of HB13.out)).trans HK9.out) (by rw [HGZ.out]; exact Nat.le_refl _) _ _ _ _ _ _⟩
      try simp [results, Try.f18, go_sem, p0, p1, p2, p3, p4, p5]
end Go.Proofs.Ytpbobmiajjgekaa
