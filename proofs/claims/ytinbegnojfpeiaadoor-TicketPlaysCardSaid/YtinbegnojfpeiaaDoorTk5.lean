/- Redeem: its contract. -/
import Derived.Test.YtinbegnojfpeiaaDoorTk4
import Derived.Test.YtinbegnojfpeiaaDoorTcR3
namespace Go.Proofs.YtinbegnojfpeiaaDoor
set_option linter.unusedVariables false
set_option maxRecDepth 100000
set_option linter.unusedSimpArgs false
open Go.RowKit

/-- What Redeem leaves. -/
structure RedPostZ (W u : World) (H : List Nat) (tb : Nat) (key : ByteArray) (R : Ps × Int × Bt) (e : Ending) (u' : World) : Prop where
  e : e = .returned (.tuple #[.agg (pcs R.1), .int .i64 R.2.1])
  z : ∃ H', Tz W u' H' tb key R.2.2 ∧ Sp u u' H H'
section
variable {W u u' : World} {H H' : List Nat} {tb : Nat} {key : ByteArray} {b b' : Bt}
theorem Tz.late {v : World} (h : Tz W v H tb key b) {g : Nat} (k : Ke [g] v u) (hg : g ∉ H) (hW : W.heap.size ≤ g) : Tz W u H tb key b :=
  h.ke k (fun y hy hx => hg (by rw [← List.mem_singleton.1 hx]; exact hy)) (h.l.trans (k.below h.l.size (fun x hx => by rw [List.mem_singleton.1 hx]; exact hW)))
theorem redNoZ {W u u1 : World} {H : List Nat} {tb : Nat} {key : ByteArray} {b : Bt} {R : Ps × Int × Bt} {g : Nat} {t : TypeId} (hz : Bz u1 H g t (pcs zeroPs)) (h : Tz W u H tb key b) (hb : Below u.heap.size u u1) (hg : u.heap.size ≤ g) (q : Ps) (m : Int) (hR : R = (q, m, b)) (e : Ending) (he : e = .returned (.tuple #[.agg (pcs q), .int .i64 m])) : RedPostZ W u H tb key R e (set4 u1 g q) := by
  refine ⟨by rw [hR]; exact he, H, ?_, ?_⟩
  · rw [hR]
    exact (h.on hb).late (ke_set4 _ _ _) hz.n (Nat.le_trans h.l.size hg)
  · exact ((Ke.of hb).sp).late (ke_set4 _ _ _) hg
set_option maxRecDepth 100000 in
set_option maxHeartbeats 4000000 in
theorem redeem_ok (h : Tz W u H tb key b) (s ten : ByteArray) (R : Ps × Int × Bt) (hE : redT b s ten = R) (hf : b.l.length ≤ 64) (hs : s.size ≤ 1099511627776) :
    Calls Tryd.prog 13 #[.pointer (some ⟨tb, 0, none⟩), .string s, .string ten] u fun e u' => RedPostZ W u H tb key R e u' := by
  obtain ⟨u1, hu1⟩ : ∃ u1, u.alloc (.cells #[.int .i64 0, .string ⟨#[]⟩, .string ⟨#[]⟩, .int .i64 0] 31) = u1 := ⟨_, rfl⟩
  obtain ⟨g, hg⟩ : ∃ g, u.heap.size = g := ⟨_, rfl⟩
  have hb1 : Below u.heap.size u u1 := by rw [← hu1]; exact (Below.refl _ _).alloc (Nat.le_refl _) _
  have HB := Lib.hid hb1
  have HZ := Lib.hid (show Bz u1 H g 31 (pcs zeroPs) by rw [← hu1, ← hg]; exact Bz.new h.hi _ _)
  have HG := Lib.hid hg
  have HD := Lib.hid h
  have HE := Lib.hid hE
  have HF := Lib.hid hf
  obtain ⟨l, A, c, kb, kc, hm, hl⟩ := h.ex
  obtain ⟨n, hn2⟩ : ∃ n, b.l.length = n := ⟨_, rfl⟩
  have hn : l.length = n := by rw [← hn2, ← hl, List.length_map]
  rw [hn2] at hf
  have HM := Lib.hid (hm.on hb1)
  have HL := Lib.hid hl
  have HN := Lib.hid hn
  have HN2 := Lib.hid hn2
  have HS := Lib.hid (shown_ok (hm.on hb1) (by rw [hn]; exact hf) s hs)
  rw [hl] at HS
  have HR := Lib.hid (Ow.rw_ (f := tqc) (k := 5) (fun _ => rfl) (hm.on hb1).ow)
  rcases ix_cases (texT s) b.l with ⟨h0, h1⟩ | ⟨i, x, hx, h0, hv, h1⟩
  · rw [h1] at HS
    have HP := Lib.hid (show R = (zeroPs, 151, b) from by
      rw [← HE.out]
      unfold redT
      rw [(erase_no (p := texT s) (l := b.l) h0).2])
    clear h hE hf hb1 hm hl hn hn2 h0 h1
    go_enter Tryd.func13, Tryd.ntmps13
    go_upto_region 1 with fail
    try rw [hu1]
    try rw [hg]
    clear hu1 hg
    go_upto_region 3 with (go_at_call 22; (with_reducible refine HS.out.mono ?_); rintro e u2 ⟨rfl, hb⟩; have HB2 := Lib.hid (HB.out.trans (hb.mono HB.out.size)); have HZ2 := Lib.hid (HZ.out.on hb); clear hb)
    have z0 : u2.cell? ⟨g, 0, none⟩ = some (.int .i64 0) := HZ2.out.b.cell 0
    have z1 : u2.cell? ⟨g, 1, none⟩ = some (.string ⟨#[]⟩) := HZ2.out.b.cell 1
    have z2 : u2.cell? ⟨g, 2, none⟩ = some (.string ⟨#[]⟩) := HZ2.out.b.cell 2
    have z3 : u2.cell? ⟨g, 3, none⟩ = some (.int .i64 0) := HZ2.out.b.cell 3
    have f0 := HZ2.out.b.frozen 0
    have f1 := HZ2.out.b.frozen 1
    have f2 := HZ2.out.b.frozen 2
    have f3 := HZ2.out.b.frozen 3
    go_wp2
    have HU := HZ2.out.b.set4 zeroPs
    simp only [set4, pcs, zeroPs] at HU
    have p0 := HU.cell 0; have p1 := HU.cell 1; have p2 := HU.cell 2; have p3 := HU.cell 3
    refine bodyPost_ret (v := .tuple #[.agg (pcs zeroPs), .int .i64 151]) ?_ rfl (redNoZ HZ2.out HD.out HB2.out (by rw [HG.out]; exact Nat.le_refl _) zeroPs 151 HP.out _ rfl)
    simp [results, Tryd.f13, go_sem, zeroPs, p0, p1, p2, p3]
  · rw [h1] at HS
    have hi := (List.getElem?_eq_some_iff.1 hx).1
    rw [hn2] at hi
    have h2 : ¬ (i : Int) < 0 := by omega
    have hi2 : (i : Int) < (n : Int) := by omega
    obtain ⟨bx, o, y, rfl, hy, hc⟩ := rowI HR.out i (by rw [hn]; exact hi)
    have hyk : y.k = x := by
      rw [← hl, List.getElem?_map, hy] at hx
      simpa using hx
    subst hyk
    obtain ⟨k, hk⟩ : ∃ k, (y.p.ten.toList == ten.toList) = k := ⟨_, rfl⟩
    have HP := Lib.hid (show R = if k = true then (y.p, 0, ⟨b.se, b.l.take i ++ b.l.drop (i + 1)⟩) else (zeroPs, 131, b) from by
      rw [← HE.out, red_at hx h0 hv, ← hk]; rfl)
    have hk2 : (y.p.ten.toList != ten.toList) = !k := by rw [bne, hk]
    have HC := Lib.hid hc
    have hblk := (hm.on hb1).blk
    rw [hn] at hblk
    have HBK := Lib.hid hblk
    obtain ⟨⟨xv, xn, xt, xe⟩, xtx, xg, xc⟩ := y
    dsimp only at hk hk2 HP HC
    clear h hE hf hb1 hm hl hn hn2 h0 h1 hx hv hy hc hi hblk
    go_enter Tryd.func13, Tryd.ntmps13
    go_upto_region 1 with fail
    try rw [hu1]
    try rw [hg]
    clear hu1 hg
    go_upto_region 4 with (go_at_call 22; (with_reducible refine HS.out.mono ?_); rintro e u2 ⟨rfl, hb⟩; have HB2 := Lib.hid (HB.out.trans (hb.mono HB.out.size)); have HZ2 := Lib.hid (HZ.out.on hb); obtain ⟨x0, x1, x2, x3, x4⟩ := HC.out u2 hb; have hbk2 := HBK.out.below hb HBK.out.lt; have c2 : u2.cell? ⟨tb, 2, none⟩ = some (.slice (some ⟨bx, o, none⟩) n c) := hbk2.cell 2; clear hb hbk2)
    go_upto_region 5 with fail
    obtain ⟨u3, hu3⟩ : ∃ u3, u2.alloc (.cells #[.int .i64 xv, .string xn, .string xt, .int .i64 xe, .slice (some ⟨xg, 0, none⟩) xtx.size xc] 59) = u3 := ⟨_, rfl⟩
    obtain ⟨gx, hgx⟩ : ∃ gx, u2.heap.size = gx := ⟨_, rfl⟩
    have HB3 := Lib.hid (show Below u.heap.size u u3 by rw [← hu3]; exact HB2.out.alloc HB2.out.size _)
    have hlt : ∀ y ∈ H, y < u2.heap.size := fun y hy => Nat.lt_of_lt_of_le (HD.out.hi y hy) HB2.out.size
    have HX3 := Lib.hid (show Bz u3 H gx 59 #[.int .i64 xv, .string xn, .string xt, .int .i64 xe, .slice (some ⟨xg, 0, none⟩) xtx.size xc] by rw [← hu3, ← hgx]; exact Bz.new hlt _ _)
    have HZ3 := Lib.hid (show Bz u3 H g 31 (pcs zeroPs) by rw [← hu3]; exact HZ2.out.alloc _)
    try rw [hu3]
    try rw [hgx]
    clear hu3 hgx hlt x0 x1 x2 x3 x4 c2
    have y2 : u3.cell? ⟨gx, 2, none⟩ = some (.string xt) := HX3.out.b.cell 2
    cases k with
    | false =>
      have z0 : u3.cell? ⟨g, 0, none⟩ = some (.int .i64 0) := HZ3.out.b.cell 0
      have z1 : u3.cell? ⟨g, 1, none⟩ = some (.string ⟨#[]⟩) := HZ3.out.b.cell 1
      have z2 : u3.cell? ⟨g, 2, none⟩ = some (.string ⟨#[]⟩) := HZ3.out.b.cell 2
      have z3 : u3.cell? ⟨g, 3, none⟩ = some (.int .i64 0) := HZ3.out.b.cell 3
      have f0 := HZ3.out.b.frozen 0
      have f1 := HZ3.out.b.frozen 1
      have f2 := HZ3.out.b.frozen 2
      have f3 := HZ3.out.b.frozen 3
      simp only [Bool.not_false] at hk2
      go_wp2
      have HU := HZ3.out.b.set4 zeroPs
      simp only [set4, pcs, zeroPs] at HU
      have p0 := HU.cell 0; have p1 := HU.cell 1; have p2 := HU.cell 2; have p3 := HU.cell 3
      refine bodyPost_ret (v := .tuple #[.agg (pcs zeroPs), .int .i64 131]) ?_ rfl (redNoZ HZ3.out HD.out HB3.out (by rw [HG.out]; exact Nat.le_refl _) zeroPs 131 HP.out _ rfl)
      simp [results, Tryd.f13, go_sem, zeroPs, p0, p1, p2, p3]
    | true =>
      simp only [Bool.not_true] at hk2
      have HC2 := Lib.hid (spend_ok (HD.out.on HB3.out) i (by rw [HN2.out]; omega) HF.out)
      go_upto_region 8 with (go_at_call 23; (with_reducible refine HC2.out.mono ?_); rintro e u4 ⟨rfl, k1, k2⟩; have HD4 := Lib.hid k1; have HS4 := Lib.hid k2; clear k1 k2)
      clear y2
      have HX4 := Lib.hid (HX3.out.step HS4.out)
      have HZ4 := Lib.hid (HZ3.out.step HS4.out)
      have y0 : u4.cell? ⟨gx, 0, none⟩ = some (.int .i64 xv) := HX4.out.b.cell 0
      have y1 : u4.cell? ⟨gx, 1, none⟩ = some (.string xn) := HX4.out.b.cell 1
      have y2 : u4.cell? ⟨gx, 2, none⟩ = some (.string xt) := HX4.out.b.cell 2
      have y3 : u4.cell? ⟨gx, 3, none⟩ = some (.int .i64 xe) := HX4.out.b.cell 3
      have z0 : u4.cell? ⟨g, 0, none⟩ = some (.int .i64 0) := HZ4.out.b.cell 0
      have z1 : u4.cell? ⟨g, 1, none⟩ = some (.string ⟨#[]⟩) := HZ4.out.b.cell 1
      have z2 : u4.cell? ⟨g, 2, none⟩ = some (.string ⟨#[]⟩) := HZ4.out.b.cell 2
      have z3 : u4.cell? ⟨g, 3, none⟩ = some (.int .i64 0) := HZ4.out.b.cell 3
      have f0 := HZ4.out.b.frozen 0
      have f1 := HZ4.out.b.frozen 1
      have f2 := HZ4.out.b.frozen 2
      have f3 := HZ4.out.b.frozen 3
      go_wp2
      have HU := HZ4.out.b.set4 ⟨xv, xn, xt, xe⟩
      simp only [set4, pcs] at HU
      have p0 := HU.cell 0; have p1 := HU.cell 1; have p2 := HU.cell 2; have p3 := HU.cell 3
      refine bodyPost_ret (v := .tuple #[.agg #[.int .i64 xv, .string xn, .string xt, .int .i64 xe], .int .i64 0]) ?_ rfl ?_
      · simp [results, Tryd.f13, go_sem, p0, p1, p2, p3]
      · have hS := ((Ke.of HB3.out).sp (G := H)).trans HS4.out
        have hgg : u.heap.size ≤ g := by rw [HG.out]; exact Nat.le_refl _
        refine ⟨by rw [HP.out]; rfl, H, ?_, hS.late (ke_set4 u4 g ⟨xv, xn, xt, xe⟩) hgg⟩
        rw [HP.out]
        exact HD4.out.late (ke_set4 u4 g ⟨xv, xn, xt, xe⟩) HZ4.out.n (Nat.le_trans HD.out.l.size hgg)
end
end Go.Proofs.YtinbegnojfpeiaaDoor
