/- does: its contract. (Written by gen_lzd.py.) -/
import Derived.Test.YtpbobmiajjgekaaLzH
namespace Go.Proofs.Ytpbobmiajjgekaa
set_option linter.unusedVariables false
set_option maxRecDepth 100000
set_option linter.unusedSimpArgs false
open Go.RowKit

/-- One of the calls. -/
def doL (g most : Int) (b : Bo) (o : Lo) : Ls × Int × Bo :=
  if o.what = 2 then renewL most b o.tn o.nm o.ep o.now o.ttl
  else if o.what = 3 then (zeroLs, (releaseL g b o.tn o.nm o.ep o.now).1, (releaseL g b o.tn o.nm o.ep o.now).2)
  else if o.what = 4 then (zeroLs, 0, (evictL b o.nm o.now).2)
  else if o.what = 5 then (zeroLs, 0, (leaveL g b o.conn o.now).2)
  else if o.what = 6 then (zeroLs, 0, (lapseL g b o.now).2)
  else claimL g most b o.tn o.nm o.conn o.now o.ttl
set_option maxRecDepth 100000 in
set_option maxHeartbeats 8000000 in
theorem w_does {W u : World} {gb : Nat} {g most : Int} {b : Bo} {G : List Nat} (h : Lw W u G gb g most b) (o : Lo) (ho : o.sm) (hnx : b.nx ≤ 1000000) (R : Ls × Int × Bo) (hR : doL g most b o = R) :
    Calls Try.prog 30 #[.pointer (some ⟨gb, 0, none⟩), .agg (los o)] u fun e u' => ∃ G', e = .returned (.tuple #[.agg (lsc R.1), .int .i64 R.2.1]) ∧ Lw W u' G' gb g most R.2.2 ∧ Sp u u' G G' := by
  obtain ⟨ow, ot, on, oc, oe, oo, ol⟩ := o
  obtain ⟨hs1, hs2⟩ := ho
  dsimp only at hs1 hs2
  obtain ⟨u1, hu1⟩ : ∃ u1, ((u.alloc (.cells #[.int .i64 ow, .string ot, .string on, .int .i64 oc, .int .i64 oe, .int .i64 oo, .int .i64 ol] 30)).alloc (.cells #[.string ⟨#[]⟩, .string ⟨#[]⟩, .int .i64 0, .int .i64 0, .int .i64 0, .bool false] 32)).alloc (.cells #[.string ⟨#[]⟩, .string ⟨#[]⟩, .int .i64 0, .int .i64 0, .int .i64 0, .bool false] 32) = u1 := ⟨_, rfl⟩
  obtain ⟨p, hp⟩ : ∃ p, u.heap.size = p := ⟨_, rfl⟩
  have HP := Lib.hid hp
  have q1 : (u.alloc (.cells #[.int .i64 ow, .string ot, .string on, .int .i64 oc, .int .i64 oe, .int .i64 oo, .int .i64 ol] 30)).heap.size = p + 1 := by rw [← hp]; exact World.size_alloc ..
  have q2 : ((u.alloc (.cells #[.int .i64 ow, .string ot, .string on, .int .i64 oc, .int .i64 oe, .int .i64 oo, .int .i64 ol] 30)).alloc (.cells #[.string ⟨#[]⟩, .string ⟨#[]⟩, .int .i64 0, .int .i64 0, .int .i64 0, .bool false] 32)).heap.size = p + 2 := by rw [World.size_alloc, q1]
  have HB := Lib.hid (show Below u.heap.size u u1 by rw [← hu1]; exact (((Below.refl u.heap.size u).alloc (Nat.le_refl _) _).alloc (by simp) _).alloc (by simp; omega) _)
  have hl1 : Lw W u1 G gb g most b := h.on HB.out
  have hgp : ∀ k, p ≤ k → k ∉ G := fun k hk hm => by have := h.hi k hm; omega
  have hW : W.heap.size ≤ p := by rw [← hp]; exact h.l.size
  obtain ⟨pz, hpz⟩ : ∃ pz, p + 1 = pz := ⟨_, rfl⟩
  obtain ⟨px, hpx⟩ : ∃ px, pz + 1 = px := ⟨_, rfl⟩
  have hpx2 : px = p + 2 := by omega
  have HPP := Lib.hid (And.intro hpx2 hpz)
  have HO := Lib.hid (show Bz u1 G p 30 #[.int .i64 ow, .string ot, .string on, .int .i64 oc, .int .i64 oe, .int .i64 oo, .int .i64 ol] from ⟨by rw [← hu1, ← hp]; exact ((Bk.new u 30 _).alloc _).alloc _, hgp _ (Nat.le_refl _)⟩)
  have HZ := Lib.hid (show Bz u1 G pz 32 #[.string ⟨#[]⟩, .string ⟨#[]⟩, .int .i64 0, .int .i64 0, .int .i64 0, .bool false] from ⟨by rw [← hu1, ← hpz, ← q1]; exact (Bk.new _ 32 _).alloc _, hgp _ (by omega)⟩)
  have HX := Lib.hid (show Bz u1 G px 32 #[.string ⟨#[]⟩, .string ⟨#[]⟩, .int .i64 0, .int .i64 0, .int .i64 0, .bool false] from ⟨by rw [← hu1, hpx2, ← q2]; exact Bk.new _ 32 _, hgp _ (by omega)⟩)
  have HL := Lib.hid hl1
  have HS1 := Lib.hid (show Sp u u1 G G from Sp.of (Ke.of HB.out).nil)
  have HWP := Lib.hid (And.intro hW (show p + 3 ≤ u1.heap.size by rw [← hu1, World.size_alloc, q2]; omega))
  have HNX := Lib.hid hnx
  have HSZ := Lib.hid (And.intro hs1 hs2)
  have HR0 := Lib.hid hR
  clear h hl1 hgp hW q1 q2 hnx hs1 hs2 hR hpx2
  by_cases h2 : ow = 2
  · subst h2
    have hr : renewL most b ot on oe oo ol = R := by rw [← HR0.out]; rfl
    obtain ⟨⟨xn, xt, xc, xe, xu, xh⟩, er, b2⟩ := R
    have HR := Lib.hid hr
    clear hr
    go_enter Try.func30, Try.ntmps30
    go_upto_region 2 with fail
    try rw [hu1]
    try rw [hp]
    try rw [hpz]
    try rw [hpx]
    clear hu1 hp hpx hpz
    have d0 : u1.cell? ⟨p, 0, none⟩ = some (.int .i64 2) := HO.out.b.cell 0
    have d1 : u1.cell? ⟨p, 1, none⟩ = some (.string ot) := HO.out.b.cell 1
    have d2 : u1.cell? ⟨p, 2, none⟩ = some (.string on) := HO.out.b.cell 2
    have d3 : u1.cell? ⟨p, 3, none⟩ = some (.int .i64 oc) := HO.out.b.cell 3
    have d4 : u1.cell? ⟨p, 4, none⟩ = some (.int .i64 oe) := HO.out.b.cell 4
    have d5 : u1.cell? ⟨p, 5, none⟩ = some (.int .i64 oo) := HO.out.b.cell 5
    have d6 : u1.cell? ⟨p, 6, none⟩ = some (.int .i64 ol) := HO.out.b.cell 6
    go_upto_region 9 with (go_at_call 14; (with_reducible refine (w_renew HL.out ot on oe oo ol HSZ.out.2 _ HR.out).mono ?_); rintro e u2 ⟨rfl, h1, h2⟩; have HL2 := Lib.hid h1; have HS2 := Lib.hid h2; clear h1 h2)
    obtain ⟨gy, hgy⟩ : ∃ gy, u2.heap.size = gy := ⟨_, rfl⟩
    obtain ⟨u3, hu3⟩ : ∃ u3, u2.alloc (.cells #[.string xn, .string xt, .int .i64 xc, .int .i64 xe, .int .i64 xu, .bool xh] 32) = u3 := ⟨_, rfl⟩
    have HL3 := Lib.hid (show Lw W u3 G gb g most b2 by rw [← hu3]; exact HL2.out.on ((Below.refl _ _).alloc (Nat.le_refl _) _))
    have HS3 := Lib.hid (show Sp u u3 G G by rw [← hu3]; exact (HS1.out.trans HS2.out).alloc _)
    have HY3 := Lib.hid (show Bk u3 gy 32 #[.string xn, .string xt, .int .i64 xc, .int .i64 xe, .int .i64 xu, .bool xh] by rw [← hu3, ← hgy]; exact Bk.new _ _ _)
    have HX3 := Lib.hid (show Bz u3 G px 32 #[.string ⟨#[]⟩, .string ⟨#[]⟩, .int .i64 0, .int .i64 0, .int .i64 0, .bool false] by rw [← hu3]; exact (HX.out.step HS2.out).alloc _)
    have HZ3 := Lib.hid (show Bz u3 G pz 32 #[.string ⟨#[]⟩, .string ⟨#[]⟩, .int .i64 0, .int .i64 0, .int .i64 0, .bool false] by rw [← hu3]; exact (HZ.out.step HS2.out).alloc _)
    try dsimp only
    rw [hu3]
    try rw [hgy]
    clear hu3 hgy d0 d1 d2 d3 d4 d5 d6
    have y0 : u3.cell? ⟨gy, 0, none⟩ = some (.string xn) := HY3.out.cell 0
    have y1 : u3.cell? ⟨gy, 1, none⟩ = some (.string xt) := HY3.out.cell 1
    have y2 : u3.cell? ⟨gy, 2, none⟩ = some (.int .i64 xc) := HY3.out.cell 2
    have y3 : u3.cell? ⟨gy, 3, none⟩ = some (.int .i64 xe) := HY3.out.cell 3
    have y4 : u3.cell? ⟨gy, 4, none⟩ = some (.int .i64 xu) := HY3.out.cell 4
    have y5 : u3.cell? ⟨gy, 5, none⟩ = some (.bool xh) := HY3.out.cell 5
    have k0 := HY3.out.frozen 0
    have k1 := HY3.out.frozen 1
    have k2 := HY3.out.frozen 2
    have k3 := HY3.out.frozen 3
    have k4 := HY3.out.frozen 4
    have k5 := HY3.out.frozen 5
    have z0 : u3.cell? ⟨px, 0, none⟩ = some (.string ⟨#[]⟩) := HX3.out.b.cell 0
    have z1 : u3.cell? ⟨px, 1, none⟩ = some (.string ⟨#[]⟩) := HX3.out.b.cell 1
    have z2 : u3.cell? ⟨px, 2, none⟩ = some (.int .i64 0) := HX3.out.b.cell 2
    have z3 : u3.cell? ⟨px, 3, none⟩ = some (.int .i64 0) := HX3.out.b.cell 3
    have z4 : u3.cell? ⟨px, 4, none⟩ = some (.int .i64 0) := HX3.out.b.cell 4
    have z5 : u3.cell? ⟨px, 5, none⟩ = some (.bool false) := HX3.out.b.cell 5
    have m0 := HX3.out.b.frozen 0
    have m1 := HX3.out.b.frozen 1
    have m2 := HX3.out.b.frozen 2
    have m3 := HX3.out.b.frozen 3
    have m4 := HX3.out.b.frozen 4
    have m5 := HX3.out.b.frozen 5
    go_upto_region 10 with fail
    obtain ⟨u4, hu4⟩ : ∃ u4, Proofs.Ytpbobmiajjgekaa.set6 u3 px (.string xn) (.string xt) (.int .i64 xc) (.int .i64 xe) (.int .i64 xu) (.bool xh) = u4 := ⟨_, rfl⟩
    have hu4' := hu4
    try unfold Proofs.Ytpbobmiajjgekaa.set6 at hu4'
    have HX4 := Lib.hid (show Bk u4 px 32 #[.string xn, .string xt, .int .i64 xc, .int .i64 xe, .int .i64 xu, .bool xh] by rw [← hu4]; exact HX3.out.b.set6 _ _ _ _ _ _)
    have HZ4 := Lib.hid (show Bk u4 pz 32 #[.string ⟨#[]⟩, .string ⟨#[]⟩, .int .i64 0, .int .i64 0, .int .i64 0, .bool false] by rw [← hu4]; exact HZ3.out.b.set6Far (by have := HPP.out.1; have := HPP.out.2; omega) _ _ _ _ _ _)
    have HL4 := Lib.hid (show Lw W u4 G gb g most b2 by rw [← hu4]; exact HL3.out.set6 HX3.out.n (by have := HWP.out.1; have := HPP.out.1; have := HPP.out.2; omega) _ _ _ _ _ _)
    have HS4 := Lib.hid (show Sp u u4 G G by rw [← hu4]; exact HS3.out.set6 (by have := HP.out; have := HPP.out.1; have := HPP.out.2; omega) _ _ _ _ _ _)
    try rw [hu4']
    try rw [hu4]
    clear hu4 hu4' y0 y1 y2 y3 y4 y5 k0 k1 k2 k3 k4 k5 z0 z1 z2 z3 z4 z5 m0 m1 m2 m3 m4 m5
    have y0 : u4.cell? ⟨px, 0, none⟩ = some (.string xn) := HX4.out.cell 0
    have y1 : u4.cell? ⟨px, 1, none⟩ = some (.string xt) := HX4.out.cell 1
    have y2 : u4.cell? ⟨px, 2, none⟩ = some (.int .i64 xc) := HX4.out.cell 2
    have y3 : u4.cell? ⟨px, 3, none⟩ = some (.int .i64 xe) := HX4.out.cell 3
    have y4 : u4.cell? ⟨px, 4, none⟩ = some (.int .i64 xu) := HX4.out.cell 4
    have y5 : u4.cell? ⟨px, 5, none⟩ = some (.bool xh) := HX4.out.cell 5
    have k0 := HX4.out.frozen 0
    have k1 := HX4.out.frozen 1
    have k2 := HX4.out.frozen 2
    have k3 := HX4.out.frozen 3
    have k4 := HX4.out.frozen 4
    have k5 := HX4.out.frozen 5
    have z0 : u4.cell? ⟨pz, 0, none⟩ = some (.string ⟨#[]⟩) := HZ4.out.cell 0
    have z1 : u4.cell? ⟨pz, 1, none⟩ = some (.string ⟨#[]⟩) := HZ4.out.cell 1
    have z2 : u4.cell? ⟨pz, 2, none⟩ = some (.int .i64 0) := HZ4.out.cell 2
    have z3 : u4.cell? ⟨pz, 3, none⟩ = some (.int .i64 0) := HZ4.out.cell 3
    have z4 : u4.cell? ⟨pz, 4, none⟩ = some (.int .i64 0) := HZ4.out.cell 4
    have z5 : u4.cell? ⟨pz, 5, none⟩ = some (.bool false) := HZ4.out.cell 5
    have m0 := HZ4.out.frozen 0
    have m1 := HZ4.out.frozen 1
    have m2 := HZ4.out.frozen 2
    have m3 := HZ4.out.frozen 3
    have m4 := HZ4.out.frozen 4
    have m5 := HZ4.out.frozen 5
    go_wp2
    have HU : Bk ((((((u4.setCell ⟨pz, 0, none⟩ (.string xn)).setCell ⟨pz, 1, none⟩ (.string xt)).setCell ⟨pz, 2, none⟩ (.int .i64 xc)).setCell ⟨pz, 3, none⟩ (.int .i64 xe)).setCell ⟨pz, 4, none⟩ (.int .i64 xu)).setCell ⟨pz, 5, none⟩ (.bool xh)) pz 32 #[.string xn, .string xt, .int .i64 xc, .int .i64 xe, .int .i64 xu, .bool xh] := HZ4.out.set6 _ _ _ _ _ _
    have p0 := HU.cell 0; have p1 := HU.cell 1; have p2 := HU.cell 2; have p3 := HU.cell 3; have p4 := HU.cell 4; have p5 := HU.cell 5
    refine bodyPost_ret (v := .tuple #[.agg #[.string xn, .string xt, .int .i64 xc, .int .i64 xe, .int .i64 xu, .bool xh], .int .i64 er]) ?_ rfl ⟨G, rfl, HL4.out.set6 HZ3.out.n (by have := HWP.out.1; have := HPP.out.1; have := HPP.out.2; omega) _ _ _ _ _ _, HS4.out.set6 (by have := HP.out; have := HPP.out.1; have := HPP.out.2; omega) _ _ _ _ _ _⟩
    try simp [results, Try.f30, go_sem, p0, p1, p2, p3, p4, p5]
  have n2 : (ow == 2) = false := by simp [h2]
  by_cases h3 : ow = 3
  · subst h3
    obtain ⟨⟨er, b2⟩, hr⟩ : ∃ r, releaseL g b ot on oe oo = r := ⟨_, rfl⟩
    have HR := Lib.hid hr
    have hq : R = (zeroLs, er, b2) := by rw [← HR0.out]; unfold doL; dsimp only; rw [if_neg (by decide), if_pos rfl, hr]
    subst hq
    clear hr h2 n2
    go_enter Try.func30, Try.ntmps30
    go_upto_region 2 with fail
    try rw [hu1]
    try rw [hp]
    try rw [hpz]
    try rw [hpx]
    clear hu1 hp hpx hpz
    have d0 : u1.cell? ⟨p, 0, none⟩ = some (.int .i64 3) := HO.out.b.cell 0
    have d1 : u1.cell? ⟨p, 1, none⟩ = some (.string ot) := HO.out.b.cell 1
    have d2 : u1.cell? ⟨p, 2, none⟩ = some (.string on) := HO.out.b.cell 2
    have d3 : u1.cell? ⟨p, 3, none⟩ = some (.int .i64 oc) := HO.out.b.cell 3
    have d4 : u1.cell? ⟨p, 4, none⟩ = some (.int .i64 oe) := HO.out.b.cell 4
    have d5 : u1.cell? ⟨p, 5, none⟩ = some (.int .i64 oo) := HO.out.b.cell 5
    have d6 : u1.cell? ⟨p, 6, none⟩ = some (.int .i64 ol) := HO.out.b.cell 6
    go_upto_region 19 with (go_at_call 16; (with_reducible refine (w_release HL.out ot on oe oo HSZ.out.2 _ HR.out).mono ?_); rintro e u2 ⟨rfl, h1, h2⟩; have HL2 := Lib.hid h1; have HS2 := Lib.hid h2; clear h1 h2)
    have HX2 := Lib.hid (HX.out.step HS2.out)
    have HZ2 := Lib.hid (HZ.out.step HS2.out)
    have HS3 := Lib.hid (HS1.out.trans HS2.out)
    clear d0 d1 d2 d3 d4 d5 d6
    have y0 : u2.cell? ⟨px, 0, none⟩ = some (.string ⟨#[]⟩) := HX2.out.b.cell 0
    have y1 : u2.cell? ⟨px, 1, none⟩ = some (.string ⟨#[]⟩) := HX2.out.b.cell 1
    have y2 : u2.cell? ⟨px, 2, none⟩ = some (.int .i64 0) := HX2.out.b.cell 2
    have y3 : u2.cell? ⟨px, 3, none⟩ = some (.int .i64 0) := HX2.out.b.cell 3
    have y4 : u2.cell? ⟨px, 4, none⟩ = some (.int .i64 0) := HX2.out.b.cell 4
    have y5 : u2.cell? ⟨px, 5, none⟩ = some (.bool false) := HX2.out.b.cell 5
    have k0 := HX2.out.b.frozen 0
    have k1 := HX2.out.b.frozen 1
    have k2 := HX2.out.b.frozen 2
    have k3 := HX2.out.b.frozen 3
    have k4 := HX2.out.b.frozen 4
    have k5 := HX2.out.b.frozen 5
    have z0 : u2.cell? ⟨pz, 0, none⟩ = some (.string ⟨#[]⟩) := HZ2.out.b.cell 0
    have z1 : u2.cell? ⟨pz, 1, none⟩ = some (.string ⟨#[]⟩) := HZ2.out.b.cell 1
    have z2 : u2.cell? ⟨pz, 2, none⟩ = some (.int .i64 0) := HZ2.out.b.cell 2
    have z3 : u2.cell? ⟨pz, 3, none⟩ = some (.int .i64 0) := HZ2.out.b.cell 3
    have z4 : u2.cell? ⟨pz, 4, none⟩ = some (.int .i64 0) := HZ2.out.b.cell 4
    have z5 : u2.cell? ⟨pz, 5, none⟩ = some (.bool false) := HZ2.out.b.cell 5
    have m0 := HZ2.out.b.frozen 0
    have m1 := HZ2.out.b.frozen 1
    have m2 := HZ2.out.b.frozen 2
    have m3 := HZ2.out.b.frozen 3
    have m4 := HZ2.out.b.frozen 4
    have m5 := HZ2.out.b.frozen 5
    go_wp2
    have HU : Bk ((((((u2.setCell ⟨pz, 0, none⟩ (.string ⟨#[]⟩)).setCell ⟨pz, 1, none⟩ (.string ⟨#[]⟩)).setCell ⟨pz, 2, none⟩ (.int .i64 0)).setCell ⟨pz, 3, none⟩ (.int .i64 0)).setCell ⟨pz, 4, none⟩ (.int .i64 0)).setCell ⟨pz, 5, none⟩ (.bool false)) pz 32 #[.string ⟨#[]⟩, .string ⟨#[]⟩, .int .i64 0, .int .i64 0, .int .i64 0, .bool false] := HZ2.out.b.set6 _ _ _ _ _ _
    have p0 := HU.cell 0; have p1 := HU.cell 1; have p2 := HU.cell 2; have p3 := HU.cell 3; have p4 := HU.cell 4; have p5 := HU.cell 5
    refine bodyPost_ret (v := .tuple #[.agg #[.string ⟨#[]⟩, .string ⟨#[]⟩, .int .i64 0, .int .i64 0, .int .i64 0, .bool false], .int .i64 er]) ?_ rfl ⟨G, rfl, HL2.out.set6 HZ2.out.n (by have := HWP.out.1; have := HPP.out.1; have := HPP.out.2; omega) _ _ _ _ _ _, HS3.out.set6 (by have := HP.out; have := HPP.out.1; have := HPP.out.2; omega) _ _ _ _ _ _⟩
    try simp [results, Try.f30, go_sem, p0, p1, p2, p3, p4, p5]
  have n3 : (ow == 3) = false := by simp [h3]
  by_cases h4 : ow = 4
  · subst h4
    obtain ⟨⟨ox, b2⟩, hr⟩ : ∃ r, evictL b on oo = r := ⟨_, rfl⟩
    have HR := Lib.hid (show (evictL b on oo).2 = b2 by rw [hr])
    have hq : R = (zeroLs, 0, b2) := by rw [← HR0.out]; unfold doL; dsimp only; rw [if_neg (by decide), if_neg (by decide), if_pos rfl, hr]
    subst hq
    clear hr h2 n2 h3 n3
    go_enter Try.func30, Try.ntmps30
    go_upto_region 2 with fail
    try rw [hu1]
    try rw [hp]
    try rw [hpz]
    try rw [hpx]
    clear hu1 hp hpx hpz
    have d0 : u1.cell? ⟨p, 0, none⟩ = some (.int .i64 4) := HO.out.b.cell 0
    have d1 : u1.cell? ⟨p, 1, none⟩ = some (.string ot) := HO.out.b.cell 1
    have d2 : u1.cell? ⟨p, 2, none⟩ = some (.string on) := HO.out.b.cell 2
    have d3 : u1.cell? ⟨p, 3, none⟩ = some (.int .i64 oc) := HO.out.b.cell 3
    have d4 : u1.cell? ⟨p, 4, none⟩ = some (.int .i64 oe) := HO.out.b.cell 4
    have d5 : u1.cell? ⟨p, 5, none⟩ = some (.int .i64 oo) := HO.out.b.cell 5
    have d6 : u1.cell? ⟨p, 6, none⟩ = some (.int .i64 ol) := HO.out.b.cell 6
    go_upto_region 19 with (go_at_call 18; (with_reducible refine (w_evict HL.out on oo HSZ.out.2 _ _ b2 rfl rfl HR.out).mono ?_); rintro e u2 ⟨rfl, h1, h2⟩; have HL2 := Lib.hid h1; have HS2 := Lib.hid h2; clear h1 h2)
    have HX2 := Lib.hid (HX.out.step HS2.out)
    have HZ2 := Lib.hid (HZ.out.step HS2.out)
    have HS3 := Lib.hid (HS1.out.trans HS2.out)
    clear d0 d1 d2 d3 d4 d5 d6
    have y0 : u2.cell? ⟨px, 0, none⟩ = some (.string ⟨#[]⟩) := HX2.out.b.cell 0
    have y1 : u2.cell? ⟨px, 1, none⟩ = some (.string ⟨#[]⟩) := HX2.out.b.cell 1
    have y2 : u2.cell? ⟨px, 2, none⟩ = some (.int .i64 0) := HX2.out.b.cell 2
    have y3 : u2.cell? ⟨px, 3, none⟩ = some (.int .i64 0) := HX2.out.b.cell 3
    have y4 : u2.cell? ⟨px, 4, none⟩ = some (.int .i64 0) := HX2.out.b.cell 4
    have y5 : u2.cell? ⟨px, 5, none⟩ = some (.bool false) := HX2.out.b.cell 5
    have k0 := HX2.out.b.frozen 0
    have k1 := HX2.out.b.frozen 1
    have k2 := HX2.out.b.frozen 2
    have k3 := HX2.out.b.frozen 3
    have k4 := HX2.out.b.frozen 4
    have k5 := HX2.out.b.frozen 5
    have z0 : u2.cell? ⟨pz, 0, none⟩ = some (.string ⟨#[]⟩) := HZ2.out.b.cell 0
    have z1 : u2.cell? ⟨pz, 1, none⟩ = some (.string ⟨#[]⟩) := HZ2.out.b.cell 1
    have z2 : u2.cell? ⟨pz, 2, none⟩ = some (.int .i64 0) := HZ2.out.b.cell 2
    have z3 : u2.cell? ⟨pz, 3, none⟩ = some (.int .i64 0) := HZ2.out.b.cell 3
    have z4 : u2.cell? ⟨pz, 4, none⟩ = some (.int .i64 0) := HZ2.out.b.cell 4
    have z5 : u2.cell? ⟨pz, 5, none⟩ = some (.bool false) := HZ2.out.b.cell 5
    have m0 := HZ2.out.b.frozen 0
    have m1 := HZ2.out.b.frozen 1
    have m2 := HZ2.out.b.frozen 2
    have m3 := HZ2.out.b.frozen 3
    have m4 := HZ2.out.b.frozen 4
    have m5 := HZ2.out.b.frozen 5
    go_wp2
    have HU : Bk ((((((u2.setCell ⟨pz, 0, none⟩ (.string ⟨#[]⟩)).setCell ⟨pz, 1, none⟩ (.string ⟨#[]⟩)).setCell ⟨pz, 2, none⟩ (.int .i64 0)).setCell ⟨pz, 3, none⟩ (.int .i64 0)).setCell ⟨pz, 4, none⟩ (.int .i64 0)).setCell ⟨pz, 5, none⟩ (.bool false)) pz 32 #[.string ⟨#[]⟩, .string ⟨#[]⟩, .int .i64 0, .int .i64 0, .int .i64 0, .bool false] := HZ2.out.b.set6 _ _ _ _ _ _
    have p0 := HU.cell 0; have p1 := HU.cell 1; have p2 := HU.cell 2; have p3 := HU.cell 3; have p4 := HU.cell 4; have p5 := HU.cell 5
    refine bodyPost_ret (v := .tuple #[.agg #[.string ⟨#[]⟩, .string ⟨#[]⟩, .int .i64 0, .int .i64 0, .int .i64 0, .bool false], .int .i64 0]) ?_ rfl ⟨G, rfl, HL2.out.set6 HZ2.out.n (by have := HWP.out.1; have := HPP.out.1; have := HPP.out.2; omega) _ _ _ _ _ _, HS3.out.set6 (by have := HP.out; have := HPP.out.1; have := HPP.out.2; omega) _ _ _ _ _ _⟩
    try simp [results, Try.f30, go_sem, p0, p1, p2, p3, p4, p5]
  have n4 : (ow == 4) = false := by simp [h4]
  by_cases h5 : ow = 5
  · subst h5
    obtain ⟨⟨ox, b2⟩, hr⟩ : ∃ r, leaveL g b oc oo = r := ⟨_, rfl⟩
    have HR := Lib.hid (show (leaveL g b oc oo).2 = b2 by rw [hr])
    have hq : R = (zeroLs, 0, b2) := by rw [← HR0.out]; unfold doL; dsimp only; rw [if_neg (by decide), if_neg (by decide), if_neg (by decide), if_pos rfl, hr]
    subst hq
    clear hr h2 n2 h3 n3 h4 n4
    go_enter Try.func30, Try.ntmps30
    go_upto_region 2 with fail
    try rw [hu1]
    try rw [hp]
    try rw [hpz]
    try rw [hpx]
    clear hu1 hp hpx hpz
    have d0 : u1.cell? ⟨p, 0, none⟩ = some (.int .i64 5) := HO.out.b.cell 0
    have d1 : u1.cell? ⟨p, 1, none⟩ = some (.string ot) := HO.out.b.cell 1
    have d2 : u1.cell? ⟨p, 2, none⟩ = some (.string on) := HO.out.b.cell 2
    have d3 : u1.cell? ⟨p, 3, none⟩ = some (.int .i64 oc) := HO.out.b.cell 3
    have d4 : u1.cell? ⟨p, 4, none⟩ = some (.int .i64 oe) := HO.out.b.cell 4
    have d5 : u1.cell? ⟨p, 5, none⟩ = some (.int .i64 oo) := HO.out.b.cell 5
    have d6 : u1.cell? ⟨p, 6, none⟩ = some (.int .i64 ol) := HO.out.b.cell 6
    go_upto_region 19 with (go_at_call 21; (with_reducible refine (w_leave HL.out oc oo _ _ b2 rfl HR.out rfl).mono ?_); rintro e u2 ⟨A, c, rfl, -, -, h1, h2⟩; have HL2 := Lib.hid h1; have HS2 := Lib.hid h2; clear h1 h2)
    have HX2 := Lib.hid (HX.out.step HS2.out)
    have HZ2 := Lib.hid (HZ.out.step HS2.out)
    have HS3 := Lib.hid (HS1.out.trans HS2.out)
    clear d0 d1 d2 d3 d4 d5 d6
    have y0 : u2.cell? ⟨px, 0, none⟩ = some (.string ⟨#[]⟩) := HX2.out.b.cell 0
    have y1 : u2.cell? ⟨px, 1, none⟩ = some (.string ⟨#[]⟩) := HX2.out.b.cell 1
    have y2 : u2.cell? ⟨px, 2, none⟩ = some (.int .i64 0) := HX2.out.b.cell 2
    have y3 : u2.cell? ⟨px, 3, none⟩ = some (.int .i64 0) := HX2.out.b.cell 3
    have y4 : u2.cell? ⟨px, 4, none⟩ = some (.int .i64 0) := HX2.out.b.cell 4
    have y5 : u2.cell? ⟨px, 5, none⟩ = some (.bool false) := HX2.out.b.cell 5
    have k0 := HX2.out.b.frozen 0
    have k1 := HX2.out.b.frozen 1
    have k2 := HX2.out.b.frozen 2
    have k3 := HX2.out.b.frozen 3
    have k4 := HX2.out.b.frozen 4
    have k5 := HX2.out.b.frozen 5
    have z0 : u2.cell? ⟨pz, 0, none⟩ = some (.string ⟨#[]⟩) := HZ2.out.b.cell 0
    have z1 : u2.cell? ⟨pz, 1, none⟩ = some (.string ⟨#[]⟩) := HZ2.out.b.cell 1
    have z2 : u2.cell? ⟨pz, 2, none⟩ = some (.int .i64 0) := HZ2.out.b.cell 2
    have z3 : u2.cell? ⟨pz, 3, none⟩ = some (.int .i64 0) := HZ2.out.b.cell 3
    have z4 : u2.cell? ⟨pz, 4, none⟩ = some (.int .i64 0) := HZ2.out.b.cell 4
    have z5 : u2.cell? ⟨pz, 5, none⟩ = some (.bool false) := HZ2.out.b.cell 5
    have m0 := HZ2.out.b.frozen 0
    have m1 := HZ2.out.b.frozen 1
    have m2 := HZ2.out.b.frozen 2
    have m3 := HZ2.out.b.frozen 3
    have m4 := HZ2.out.b.frozen 4
    have m5 := HZ2.out.b.frozen 5
    go_wp2
    have HU : Bk ((((((u2.setCell ⟨pz, 0, none⟩ (.string ⟨#[]⟩)).setCell ⟨pz, 1, none⟩ (.string ⟨#[]⟩)).setCell ⟨pz, 2, none⟩ (.int .i64 0)).setCell ⟨pz, 3, none⟩ (.int .i64 0)).setCell ⟨pz, 4, none⟩ (.int .i64 0)).setCell ⟨pz, 5, none⟩ (.bool false)) pz 32 #[.string ⟨#[]⟩, .string ⟨#[]⟩, .int .i64 0, .int .i64 0, .int .i64 0, .bool false] := HZ2.out.b.set6 _ _ _ _ _ _
    have p0 := HU.cell 0; have p1 := HU.cell 1; have p2 := HU.cell 2; have p3 := HU.cell 3; have p4 := HU.cell 4; have p5 := HU.cell 5
    refine bodyPost_ret (v := .tuple #[.agg #[.string ⟨#[]⟩, .string ⟨#[]⟩, .int .i64 0, .int .i64 0, .int .i64 0, .bool false], .int .i64 0]) ?_ rfl ⟨G, rfl, HL2.out.set6 HZ2.out.n (by have := HWP.out.1; have := HPP.out.1; have := HPP.out.2; omega) _ _ _ _ _ _, HS3.out.set6 (by have := HP.out; have := HPP.out.1; have := HPP.out.2; omega) _ _ _ _ _ _⟩
    try simp [results, Try.f30, go_sem, p0, p1, p2, p3, p4, p5]
  have n5 : (ow == 5) = false := by simp [h5]
  by_cases h6 : ow = 6
  · subst h6
    obtain ⟨⟨ox, b2⟩, hr⟩ : ∃ r, lapseL g b oo = r := ⟨_, rfl⟩
    have HR := Lib.hid (show (lapseL g b oo).2 = b2 by rw [hr])
    have hq : R = (zeroLs, 0, b2) := by rw [← HR0.out]; unfold doL; dsimp only; rw [if_neg (by decide), if_neg (by decide), if_neg (by decide), if_neg (by decide), if_pos rfl, hr]
    subst hq
    clear hr h2 n2 h3 n3 h4 n4 h5 n5
    go_enter Try.func30, Try.ntmps30
    go_upto_region 2 with fail
    try rw [hu1]
    try rw [hp]
    try rw [hpz]
    try rw [hpx]
    clear hu1 hp hpx hpz
    have d0 : u1.cell? ⟨p, 0, none⟩ = some (.int .i64 6) := HO.out.b.cell 0
    have d1 : u1.cell? ⟨p, 1, none⟩ = some (.string ot) := HO.out.b.cell 1
    have d2 : u1.cell? ⟨p, 2, none⟩ = some (.string on) := HO.out.b.cell 2
    have d3 : u1.cell? ⟨p, 3, none⟩ = some (.int .i64 oc) := HO.out.b.cell 3
    have d4 : u1.cell? ⟨p, 4, none⟩ = some (.int .i64 oe) := HO.out.b.cell 4
    have d5 : u1.cell? ⟨p, 5, none⟩ = some (.int .i64 oo) := HO.out.b.cell 5
    have d6 : u1.cell? ⟨p, 6, none⟩ = some (.int .i64 ol) := HO.out.b.cell 6
    go_upto_region 19 with (go_at_call 23; (with_reducible refine (w_lapse HL.out oo _ _ b2 rfl HR.out rfl).mono ?_); rintro e u2 ⟨A, c, rfl, -, -, h1, h2⟩; have HL2 := Lib.hid h1; have HS2 := Lib.hid h2; clear h1 h2)
    have HX2 := Lib.hid (HX.out.step HS2.out)
    have HZ2 := Lib.hid (HZ.out.step HS2.out)
    have HS3 := Lib.hid (HS1.out.trans HS2.out)
    clear d0 d1 d2 d3 d4 d5 d6
    have y0 : u2.cell? ⟨px, 0, none⟩ = some (.string ⟨#[]⟩) := HX2.out.b.cell 0
    have y1 : u2.cell? ⟨px, 1, none⟩ = some (.string ⟨#[]⟩) := HX2.out.b.cell 1
    have y2 : u2.cell? ⟨px, 2, none⟩ = some (.int .i64 0) := HX2.out.b.cell 2
    have y3 : u2.cell? ⟨px, 3, none⟩ = some (.int .i64 0) := HX2.out.b.cell 3
    have y4 : u2.cell? ⟨px, 4, none⟩ = some (.int .i64 0) := HX2.out.b.cell 4
    have y5 : u2.cell? ⟨px, 5, none⟩ = some (.bool false) := HX2.out.b.cell 5
    have k0 := HX2.out.b.frozen 0
    have k1 := HX2.out.b.frozen 1
    have k2 := HX2.out.b.frozen 2
    have k3 := HX2.out.b.frozen 3
    have k4 := HX2.out.b.frozen 4
    have k5 := HX2.out.b.frozen 5
    have z0 : u2.cell? ⟨pz, 0, none⟩ = some (.string ⟨#[]⟩) := HZ2.out.b.cell 0
    have z1 : u2.cell? ⟨pz, 1, none⟩ = some (.string ⟨#[]⟩) := HZ2.out.b.cell 1
    have z2 : u2.cell? ⟨pz, 2, none⟩ = some (.int .i64 0) := HZ2.out.b.cell 2
    have z3 : u2.cell? ⟨pz, 3, none⟩ = some (.int .i64 0) := HZ2.out.b.cell 3
    have z4 : u2.cell? ⟨pz, 4, none⟩ = some (.int .i64 0) := HZ2.out.b.cell 4
    have z5 : u2.cell? ⟨pz, 5, none⟩ = some (.bool false) := HZ2.out.b.cell 5
    have m0 := HZ2.out.b.frozen 0
    have m1 := HZ2.out.b.frozen 1
    have m2 := HZ2.out.b.frozen 2
    have m3 := HZ2.out.b.frozen 3
    have m4 := HZ2.out.b.frozen 4
    have m5 := HZ2.out.b.frozen 5
    go_wp2
    have HU : Bk ((((((u2.setCell ⟨pz, 0, none⟩ (.string ⟨#[]⟩)).setCell ⟨pz, 1, none⟩ (.string ⟨#[]⟩)).setCell ⟨pz, 2, none⟩ (.int .i64 0)).setCell ⟨pz, 3, none⟩ (.int .i64 0)).setCell ⟨pz, 4, none⟩ (.int .i64 0)).setCell ⟨pz, 5, none⟩ (.bool false)) pz 32 #[.string ⟨#[]⟩, .string ⟨#[]⟩, .int .i64 0, .int .i64 0, .int .i64 0, .bool false] := HZ2.out.b.set6 _ _ _ _ _ _
    have p0 := HU.cell 0; have p1 := HU.cell 1; have p2 := HU.cell 2; have p3 := HU.cell 3; have p4 := HU.cell 4; have p5 := HU.cell 5
    refine bodyPost_ret (v := .tuple #[.agg #[.string ⟨#[]⟩, .string ⟨#[]⟩, .int .i64 0, .int .i64 0, .int .i64 0, .bool false], .int .i64 0]) ?_ rfl ⟨G, rfl, HL2.out.set6 HZ2.out.n (by have := HWP.out.1; have := HPP.out.1; have := HPP.out.2; omega) _ _ _ _ _ _, HS3.out.set6 (by have := HP.out; have := HPP.out.1; have := HPP.out.2; omega) _ _ _ _ _ _⟩
    try simp [results, Try.f30, go_sem, p0, p1, p2, p3, p4, p5]
  have n6 : (ow == 6) = false := by simp [h6]
  have hr : claimL g most b ot on oc oo ol = R := by rw [← HR0.out]; unfold doL; dsimp only; rw [if_neg h2, if_neg h3, if_neg h4, if_neg h5, if_neg h6]
  obtain ⟨⟨xn, xt, xc, xe, xu, xh⟩, er, b2⟩ := R
  have HR := Lib.hid hr
  clear hr h2 h3 h4 h5 h6
  go_enter Try.func30, Try.ntmps30
  go_upto_region 2 with fail
  try rw [hu1]
  try rw [hp]
  try rw [hpz]
  try rw [hpx]
  clear hu1 hp hpx hpz
  have d0 : u1.cell? ⟨p, 0, none⟩ = some (.int .i64 ow) := HO.out.b.cell 0
  have d1 : u1.cell? ⟨p, 1, none⟩ = some (.string ot) := HO.out.b.cell 1
  have d2 : u1.cell? ⟨p, 2, none⟩ = some (.string on) := HO.out.b.cell 2
  have d3 : u1.cell? ⟨p, 3, none⟩ = some (.int .i64 oc) := HO.out.b.cell 3
  have d4 : u1.cell? ⟨p, 4, none⟩ = some (.int .i64 oe) := HO.out.b.cell 4
  have d5 : u1.cell? ⟨p, 5, none⟩ = some (.int .i64 oo) := HO.out.b.cell 5
  have d6 : u1.cell? ⟨p, 6, none⟩ = some (.int .i64 ol) := HO.out.b.cell 6
  go_upto_region 5 with (go_at_call 25; (with_reducible refine (w_claim HL.out ot on oc oo ol HSZ.out.1 HSZ.out.2 HNX.out _ HR.out).mono ?_); rintro e u2 ⟨G', rfl, h1, h2⟩; have HL2 := Lib.hid h1; have HS2 := Lib.hid h2; clear h1 h2)
  obtain ⟨gy, hgy⟩ : ∃ gy, u2.heap.size = gy := ⟨_, rfl⟩
  obtain ⟨u3, hu3⟩ : ∃ u3, u2.alloc (.cells #[.string xn, .string xt, .int .i64 xc, .int .i64 xe, .int .i64 xu, .bool xh] 32) = u3 := ⟨_, rfl⟩
  have HL3 := Lib.hid (show Lw W u3 G' gb g most b2 by rw [← hu3]; exact HL2.out.on ((Below.refl _ _).alloc (Nat.le_refl _) _))
  have HS3 := Lib.hid (show Sp u u3 G G' by rw [← hu3]; exact (HS1.out.trans HS2.out).alloc _)
  have HY3 := Lib.hid (show Bk u3 gy 32 #[.string xn, .string xt, .int .i64 xc, .int .i64 xe, .int .i64 xu, .bool xh] by rw [← hu3, ← hgy]; exact Bk.new _ _ _)
  have HX3 := Lib.hid (show Bz u3 G' px 32 #[.string ⟨#[]⟩, .string ⟨#[]⟩, .int .i64 0, .int .i64 0, .int .i64 0, .bool false] by rw [← hu3]; exact (HX.out.step HS2.out).alloc _)
  have HZ3 := Lib.hid (show Bz u3 G' pz 32 #[.string ⟨#[]⟩, .string ⟨#[]⟩, .int .i64 0, .int .i64 0, .int .i64 0, .bool false] by rw [← hu3]; exact (HZ.out.step HS2.out).alloc _)
  try dsimp only
  rw [hu3]
  try rw [hgy]
  clear hu3 hgy d0 d1 d2 d3 d4 d5 d6
  have y0 : u3.cell? ⟨gy, 0, none⟩ = some (.string xn) := HY3.out.cell 0
  have y1 : u3.cell? ⟨gy, 1, none⟩ = some (.string xt) := HY3.out.cell 1
  have y2 : u3.cell? ⟨gy, 2, none⟩ = some (.int .i64 xc) := HY3.out.cell 2
  have y3 : u3.cell? ⟨gy, 3, none⟩ = some (.int .i64 xe) := HY3.out.cell 3
  have y4 : u3.cell? ⟨gy, 4, none⟩ = some (.int .i64 xu) := HY3.out.cell 4
  have y5 : u3.cell? ⟨gy, 5, none⟩ = some (.bool xh) := HY3.out.cell 5
  have k0 := HY3.out.frozen 0
  have k1 := HY3.out.frozen 1
  have k2 := HY3.out.frozen 2
  have k3 := HY3.out.frozen 3
  have k4 := HY3.out.frozen 4
  have k5 := HY3.out.frozen 5
  have z0 : u3.cell? ⟨px, 0, none⟩ = some (.string ⟨#[]⟩) := HX3.out.b.cell 0
  have z1 : u3.cell? ⟨px, 1, none⟩ = some (.string ⟨#[]⟩) := HX3.out.b.cell 1
  have z2 : u3.cell? ⟨px, 2, none⟩ = some (.int .i64 0) := HX3.out.b.cell 2
  have z3 : u3.cell? ⟨px, 3, none⟩ = some (.int .i64 0) := HX3.out.b.cell 3
  have z4 : u3.cell? ⟨px, 4, none⟩ = some (.int .i64 0) := HX3.out.b.cell 4
  have z5 : u3.cell? ⟨px, 5, none⟩ = some (.bool false) := HX3.out.b.cell 5
  have m0 := HX3.out.b.frozen 0
  have m1 := HX3.out.b.frozen 1
  have m2 := HX3.out.b.frozen 2
  have m3 := HX3.out.b.frozen 3
  have m4 := HX3.out.b.frozen 4
  have m5 := HX3.out.b.frozen 5
  go_upto_region 6 with fail
  obtain ⟨u4, hu4⟩ : ∃ u4, Proofs.Ytpbobmiajjgekaa.set6 u3 px (.string xn) (.string xt) (.int .i64 xc) (.int .i64 xe) (.int .i64 xu) (.bool xh) = u4 := ⟨_, rfl⟩
  have hu4' := hu4
  try unfold Proofs.Ytpbobmiajjgekaa.set6 at hu4'
  have HX4 := Lib.hid (show Bk u4 px 32 #[.string xn, .string xt, .int .i64 xc, .int .i64 xe, .int .i64 xu, .bool xh] by rw [← hu4]; exact HX3.out.b.set6 _ _ _ _ _ _)
  have HZ4 := Lib.hid (show Bk u4 pz 32 #[.string ⟨#[]⟩, .string ⟨#[]⟩, .int .i64 0, .int .i64 0, .int .i64 0, .bool false] by rw [← hu4]; exact HZ3.out.b.set6Far (by have := HPP.out.1; have := HPP.out.2; omega) _ _ _ _ _ _)
  have HL4 := Lib.hid (show Lw W u4 G' gb g most b2 by rw [← hu4]; exact HL3.out.set6 HX3.out.n (by have := HWP.out.1; have := HPP.out.1; have := HPP.out.2; omega) _ _ _ _ _ _)
  have HS4 := Lib.hid (show Sp u u4 G G' by rw [← hu4]; exact HS3.out.set6 (by have := HP.out; have := HPP.out.1; have := HPP.out.2; omega) _ _ _ _ _ _)
  try rw [hu4']
  try rw [hu4]
  clear hu4 hu4' y0 y1 y2 y3 y4 y5 k0 k1 k2 k3 k4 k5 z0 z1 z2 z3 z4 z5 m0 m1 m2 m3 m4 m5
  have y0 : u4.cell? ⟨px, 0, none⟩ = some (.string xn) := HX4.out.cell 0
  have y1 : u4.cell? ⟨px, 1, none⟩ = some (.string xt) := HX4.out.cell 1
  have y2 : u4.cell? ⟨px, 2, none⟩ = some (.int .i64 xc) := HX4.out.cell 2
  have y3 : u4.cell? ⟨px, 3, none⟩ = some (.int .i64 xe) := HX4.out.cell 3
  have y4 : u4.cell? ⟨px, 4, none⟩ = some (.int .i64 xu) := HX4.out.cell 4
  have y5 : u4.cell? ⟨px, 5, none⟩ = some (.bool xh) := HX4.out.cell 5
  have k0 := HX4.out.frozen 0
  have k1 := HX4.out.frozen 1
  have k2 := HX4.out.frozen 2
  have k3 := HX4.out.frozen 3
  have k4 := HX4.out.frozen 4
  have k5 := HX4.out.frozen 5
  have z0 : u4.cell? ⟨pz, 0, none⟩ = some (.string ⟨#[]⟩) := HZ4.out.cell 0
  have z1 : u4.cell? ⟨pz, 1, none⟩ = some (.string ⟨#[]⟩) := HZ4.out.cell 1
  have z2 : u4.cell? ⟨pz, 2, none⟩ = some (.int .i64 0) := HZ4.out.cell 2
  have z3 : u4.cell? ⟨pz, 3, none⟩ = some (.int .i64 0) := HZ4.out.cell 3
  have z4 : u4.cell? ⟨pz, 4, none⟩ = some (.int .i64 0) := HZ4.out.cell 4
  have z5 : u4.cell? ⟨pz, 5, none⟩ = some (.bool false) := HZ4.out.cell 5
  have m0 := HZ4.out.frozen 0
  have m1 := HZ4.out.frozen 1
  have m2 := HZ4.out.frozen 2
  have m3 := HZ4.out.frozen 3
  have m4 := HZ4.out.frozen 4
  have m5 := HZ4.out.frozen 5
  go_wp2
  have HU : Bk ((((((u4.setCell ⟨pz, 0, none⟩ (.string xn)).setCell ⟨pz, 1, none⟩ (.string xt)).setCell ⟨pz, 2, none⟩ (.int .i64 xc)).setCell ⟨pz, 3, none⟩ (.int .i64 xe)).setCell ⟨pz, 4, none⟩ (.int .i64 xu)).setCell ⟨pz, 5, none⟩ (.bool xh)) pz 32 #[.string xn, .string xt, .int .i64 xc, .int .i64 xe, .int .i64 xu, .bool xh] := HZ4.out.set6 _ _ _ _ _ _
  have p0 := HU.cell 0; have p1 := HU.cell 1; have p2 := HU.cell 2; have p3 := HU.cell 3; have p4 := HU.cell 4; have p5 := HU.cell 5
  refine bodyPost_ret (v := .tuple #[.agg #[.string xn, .string xt, .int .i64 xc, .int .i64 xe, .int .i64 xu, .bool xh], .int .i64 er]) ?_ rfl ⟨G', rfl, HL4.out.set6 HZ3.out.n (by have := HWP.out.1; have := HPP.out.1; have := HPP.out.2; omega) _ _ _ _ _ _, HS4.out.set6 (by have := HP.out; have := HPP.out.1; have := HPP.out.2; omega) _ _ _ _ _ _⟩
  try simp [results, Try.f30, go_sem, p0, p1, p2, p3, p4, p5]
end Go.Proofs.Ytpbobmiajjgekaa
