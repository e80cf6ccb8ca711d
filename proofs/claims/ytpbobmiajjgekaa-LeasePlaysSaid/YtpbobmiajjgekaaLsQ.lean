/- The document's own book of leases: Release, Evict, Renew: the row is what it was, or new. (Written by gen_lsq.py.) -/
import Derived.Test.YtpbobmiajjgekaaG12
namespace Go.Proofs.Ytpbobmiajjgekaa
set_option linter.unusedVariables false
set_option maxRecDepth 100000
set_option linter.unusedSimpArgs false
open Go.RowKit

/-- The book after a call: its row is the one before, or new. -/
def Lq (u u' : World) (bb B : Nat) (g most : Int) (b' : Bo) : Prop := (Lr u' bb B g most b' ∧ u'.cell? ⟨bb, 0, none⟩ = u.cell? ⟨bb, 0, none⟩) ∨ Lr u' bb u.heap.size g most b'
theorem Lq.lr {u u' : World} {bb B : Nat} {g most : Int} {b' : Bo} (h : Lq u u' bb B g most b') (hb : bb < B) (hB : B ≤ u.heap.size) : Lr u' bb B g most b' := by
  rcases h with ⟨h, _⟩ | h
  · exact h
  · exact h.weak hB hb
theorem below_c0 {B : Nat} {u u' : World} {bb : Nat} (h : Below B u u') (hb : bb < B) : u'.cell? ⟨bb, 0, none⟩ = u.cell? ⟨bb, 0, none⟩ := by
  have e : u'.heap[bb]? = u.heap[bb]? := h.block bb hb
  unfold World.cell?
  rw [e]
theorem Lr.same {u u' : World} {bb B : Nat} {g most : Int} {b : Bo} (h : Lr u bb B g most b) (hb : Below u.heap.size u u') : Lq u u' bb B g most b := .inl ⟨h.on hb, below_c0 hb (Nat.lt_of_lt_of_le h.lt h.bs)⟩
theorem Lr.new {u v u' : World} {bb B : Nat} {g most : Int} {b b' : Bo} (h : Lr u bb B g most b) (hb : Below u.heap.size u v) (k : Lr u' bb v.heap.size g most b') : Lq u u' bb B g most b' := .inr (k.weak hb.size (Nat.lt_of_lt_of_le h.lt h.bs))
set_option maxRecDepth 100000 in
set_option maxHeartbeats 4000000 in
theorem lrrelease_q (u : World) (bb B : Nat) (g most : Int) (b : Bo) (ten s : ByteArray) (ep now : Int) (h : Lr u bb B g most b) (hl : b.l.length ≤ 1000000) (hup : UpL b.l) (hg : 0 ≤ g) (hg2 : g ≤ 1073741824) :
    Calls Try.prog 17 #[.pointer (some ⟨bb, 0, none⟩), .string ten, .string s, .int .i64 ep, .int .i64 now] u fun e u' => e = .returned (.int .i64 (releaseL g b ten s ep now).1) ∧ Lq u u' bb B g most (releaseL g b ten s ep now).2 ∧ Ke [bb] u u' := by
  have HO := Lib.hid (lrown_ok u bb B g most b ten s ep now h hl)
  have HL := Lib.hid h
  have HG := Lib.hid (And.intro hl hup)
  unfold releaseL
  obtain ⟨R, hR⟩ : ∃ R, ownL b ten s ep now = R := ⟨_, rfl⟩
  have hclk : R.2 = 0 → clkB now = true := fun hh => own_clk (by rw [hR]; exact hh)
  simp only [hR] at HO ⊢
  clear h hl hup hR
  obtain ⟨⟨yn, yt, yc, ye, yu, yh⟩, er⟩ := R
  by_cases he : er = 0
  · subst he
    have hc := hclk rfl
    clear hclk
    unfold clkB at hc
    simp only [Bool.and_eq_true, decide_eq_true_eq] at hc
    obtain ⟨hn1, hn2⟩ := hc
    rw [if_pos rfl]
    obtain ⟨G, rfl⟩ := Int.eq_ofNat_of_zero_le hg
    obtain ⟨N, rfl⟩ := Int.eq_ofNat_of_zero_le hn1
    obtain ⟨S, hS⟩ : ∃ S : Nat, (N : Int) + (G : Int) = (S : Int) := ⟨N + G, by omega⟩
    have hw := (iwrap ((N : Int) + (G : Int)) S hS (by omega)).1
    have HQ := Lib.hid (show (⟨ptL (⟨yn, yt, yc, ye, (N : Int) + (G : Int), false⟩ : Ls) b.l, b.nx⟩ : Bo) = ⟨ptL ⟨yn, yt, yc, ye, (S : Int), false⟩ b.l, b.nx⟩ by rw [hS])
    clear hS hg hg2 hn1 hn2
    go_enter Try.func17, Try.ntmps17
    go_upto_region 2 with (go_at_call 38; (with_reducible refine HO.out.mono ?_); rintro e u2 ⟨rfl, hb⟩; have HB := Lib.hid hb; clear hb)
    obtain ⟨gx, hgx⟩ : ∃ gx, u2.heap.size = gx := ⟨_, rfl⟩
    obtain ⟨u3, hu3⟩ : ∃ u3, u2.alloc (.cells #[.string yn, .string yt, .int .i64 yc, .int .i64 ye, .int .i64 yu, .bool yh] 32) = u3 := ⟨_, rfl⟩
    have HB3 := Lib.hid (show Below u.heap.size u u3 by rw [← hu3]; exact HB.out.alloc HB.out.size _)
    have HX := Lib.hid (show Bk u3 gx 32 #[.string yn, .string yt, .int .i64 yc, .int .i64 ye, .int .i64 yu, .bool yh] by rw [← hu3, ← hgx]; exact Bk.new _ _ _)
    have HGX := Lib.hid (show u.heap.size ≤ gx by rw [← hgx]; exact HB.out.size)
    try dsimp only
    rw [hu3]
    try rw [hgx]
    clear hu3 hgx HB
    have y0 : u3.cell? ⟨gx, 0, none⟩ = some (.string yn) := HX.out.cell 0
    have y1 : u3.cell? ⟨gx, 1, none⟩ = some (.string yt) := HX.out.cell 1
    have y2 : u3.cell? ⟨gx, 2, none⟩ = some (.int .i64 yc) := HX.out.cell 2
    have y3 : u3.cell? ⟨gx, 3, none⟩ = some (.int .i64 ye) := HX.out.cell 3
    have y4 : u3.cell? ⟨gx, 4, none⟩ = some (.int .i64 yu) := HX.out.cell 4
    have y5 : u3.cell? ⟨gx, 5, none⟩ = some (.bool yh) := HX.out.cell 5
    have k0 := HX.out.frozen 0
    have k1 := HX.out.frozen 1
    have k2 := HX.out.frozen 2
    have k3 := HX.out.frozen 3
    have k4 := HX.out.frozen 4
    have k5 := HX.out.frozen 5
    go_upto_region 5 with fail
    obtain ⟨u4, hu4⟩ : ∃ u4, u3.setCell ⟨gx, 5, none⟩ (.bool false) = u4 := ⟨_, rfl⟩
    have HB4 := Lib.hid (show Below u.heap.size u u4 by rw [← hu4]; exact HB3.out.setCell (p := ⟨gx, 5, none⟩) HGX.out _)
    have HX4 := Lib.hid (show Bk u4 gx 32 #[.string yn, .string yt, .int .i64 yc, .int .i64 ye, .int .i64 yu, .bool false] by rw [← hu4]; simpa only [List.setIfInBounds_toArray, List.set_cons_zero, List.set_cons_succ] using HX.out.set 5 (.bool false))
    rw [hu4]
    clear hu4 HB3 HX y0 y1 y2 y3 y4 y5 k0 k1 k2 k3 k4 k5
    have y0 : u4.cell? ⟨gx, 0, none⟩ = some (.string yn) := HX4.out.cell 0
    have y1 : u4.cell? ⟨gx, 1, none⟩ = some (.string yt) := HX4.out.cell 1
    have y2 : u4.cell? ⟨gx, 2, none⟩ = some (.int .i64 yc) := HX4.out.cell 2
    have y3 : u4.cell? ⟨gx, 3, none⟩ = some (.int .i64 ye) := HX4.out.cell 3
    have y4 : u4.cell? ⟨gx, 4, none⟩ = some (.int .i64 yu) := HX4.out.cell 4
    have y5 : u4.cell? ⟨gx, 5, none⟩ = some (.bool false) := HX4.out.cell 5
    have k0 := HX4.out.frozen 0
    have k1 := HX4.out.frozen 1
    have k2 := HX4.out.frozen 2
    have k3 := HX4.out.frozen 3
    have k4 := HX4.out.frozen 4
    have k5 := HX4.out.frozen 5
    have e1 : u4.cell? ⟨bb, 1, none⟩ = some (.int .i64 (G : Int)) := by
      obtain ⟨⟨A, c, h1, _⟩, _, _⟩ := HL.out
      exact (h1.below HB4.out h1.lt).cell 1
    go_upto_region 6 with fail
    obtain ⟨u5, hu5⟩ : ∃ u5, u4.setCell ⟨gx, 4, none⟩ (.int .i64 (S : Int)) = u5 := ⟨_, rfl⟩
    have HB5 := Lib.hid (show Below u.heap.size u u5 by rw [← hu5]; exact HB4.out.setCell (p := ⟨gx, 4, none⟩) HGX.out _)
    have HX5 := Lib.hid (show Bk u5 gx 32 #[.string yn, .string yt, .int .i64 yc, .int .i64 ye, .int .i64 (S : Int), .bool false] by rw [← hu5]; simpa only [List.setIfInBounds_toArray, List.set_cons_zero, List.set_cons_succ] using HX4.out.set 4 (.int .i64 (S : Int)))
    rw [hu5]
    clear hu5 HB4 HX4 y0 y1 y2 y3 y4 y5 k0 k1 k2 k3 k4 k5 e1
    have y0 : u5.cell? ⟨gx, 0, none⟩ = some (.string yn) := HX5.out.cell 0
    have y1 : u5.cell? ⟨gx, 1, none⟩ = some (.string yt) := HX5.out.cell 1
    have y2 : u5.cell? ⟨gx, 2, none⟩ = some (.int .i64 yc) := HX5.out.cell 2
    have y3 : u5.cell? ⟨gx, 3, none⟩ = some (.int .i64 ye) := HX5.out.cell 3
    have y4 : u5.cell? ⟨gx, 4, none⟩ = some (.int .i64 (S : Int)) := HX5.out.cell 4
    have y5 : u5.cell? ⟨gx, 5, none⟩ = some (.bool false) := HX5.out.cell 5
    have k0 := HX5.out.frozen 0
    have k1 := HX5.out.frozen 1
    have k2 := HX5.out.frozen 2
    have k3 := HX5.out.frozen 3
    have k4 := HX5.out.frozen 4
    have k5 := HX5.out.frozen 5
    have HP := Lib.hid (lrput_ok u5 bb B (G : Int) most b ⟨yn, yt, yc, ye, (S : Int), false⟩ (HL.out.on HB5.out) HG.out.1 HG.out.2)
    go_wp2_with (go_at_call 39; (with_reducible refine HP.out.mono ?_); rintro e u6 ⟨rfl, hr, hk⟩; have HR6 := Lib.hid hr; have HK6 := Lib.hid hk; clear hr hk)
    go_ret
    exact ⟨rfl, by rw [HQ.out]; exact HL.out.new HB5.out HR6.out, (Ke.nil (Ke.of HB5.out)).trans HK6.out⟩
  · have he2 : decide (er = 0) = false := decide_eq_false he
    have he3 : (er == 0) = false := by simp [he]
    clear hclk
    rw [if_neg he]
    go_enter Try.func17, Try.ntmps17
    go_upto_region 2 with (go_at_call 38; (with_reducible refine HO.out.mono ?_); rintro e u2 ⟨rfl, hb⟩; have HB := Lib.hid hb; clear hb)
    obtain ⟨u3, hu3⟩ : ∃ u3, u2.alloc (.cells #[.string yn, .string yt, .int .i64 yc, .int .i64 ye, .int .i64 yu, .bool yh] 32) = u3 := ⟨_, rfl⟩
    have HB3 := Lib.hid (show Below u.heap.size u u3 by rw [← hu3]; exact HB.out.alloc HB.out.size _)
    try dsimp only
    rw [hu3]
    clear hu3 HB
    go_wp2
    go_ret
    exact ⟨rfl, HL.out.same HB3.out, Ke.nil (Ke.of HB3.out)⟩
set_option maxRecDepth 100000 in
set_option maxHeartbeats 4000000 in
theorem lrevict_q (u : World) (bb B : Nat) (g most : Int) (b : Bo) (s : ByteArray) (now : Int) (h : Lr u bb B g most b) (hl : b.l.length ≤ 1000000) :
    Calls Try.prog 19 #[.pointer (some ⟨bb, 0, none⟩), .string s, .int .i64 now] u fun e u' => e = .returned (.tuple #[.agg (lsc ((evictL b s now).1.getD zeroLs)), .bool (evictL b s now).1.isSome]) ∧ Lq u u' bb B g most (evictL b s now).2 ∧ Ke [bb] u u' := by
  obtain ⟨u1, hu1⟩ : ∃ u1, u.alloc (.cells #[.string ⟨#[]⟩, .string ⟨#[]⟩, .int .i64 0, .int .i64 0, .int .i64 0, .bool false] 32) = u1 := ⟨_, rfl⟩
  have HB := Lib.hid (show Below u.heap.size u u1 by rw [← hu1]; exact (Below.refl _ _).alloc (Nat.le_refl _) _)
  have HZ := Lib.hid (show Bk u1 u.heap.size 32 #[.string ⟨#[]⟩, .string ⟨#[]⟩, .int .i64 0, .int .i64 0, .int .i64 0, .bool false] by rw [← hu1]; exact Bk.new _ _ _)
  have HH := Lib.hid (lrholder_ok u1 bb B g most b s now (h.on HB.out) hl)
  have HC := Lib.hid (fun w => lrclock_ok now w)
  have HL := Lib.hid h
  have HBL := Lib.hid hl
  clear h hl
  obtain ⟨R, hR⟩ : ∃ R, evictL b s now = R := ⟨_, rfl⟩
  have hr := hR
  simp only [hR]
  unfold evictL at hr
  obtain ⟨hd, hhd⟩ : ∃ hd, holdL b s now = hd := ⟨_, rfl⟩
  obtain ⟨ck, hck⟩ : ∃ ck, clkB now = ck := ⟨_, rfl⟩
  simp only [hhd] at HH hr
  simp only [hck] at HC hr
  have HR := Lib.hid hr
  clear hhd hck hr hR
  obtain ⟨y, hy⟩ : ∃ y, hd.getD zeroLs = y := ⟨_, rfl⟩
  obtain ⟨is, his⟩ : ∃ is, hd.isSome = is := ⟨_, rfl⟩
  simp only [hy, his] at HH
  have HY := Lib.hid hy
  have HI := Lib.hid his
  clear hy his
  obtain ⟨yn, yt, yc, ye, yu, yh⟩ := y
  have arm : True := trivial
  obtain ⟨gz, hgz⟩ : ∃ gz, u.heap.size = gz := ⟨_, rfl⟩
  have HGZ := Lib.hid hgz
  go_enter Try.func19, Try.ntmps19
  go_upto_region 1 with fail
  try rw [hu1]
  try rw [hgz]
  rw [hgz] at HZ
  clear hu1 hgz
  go_upto_region 2 with (go_at_call 28; (with_reducible refine HH.out.mono ?_); rintro e u2 ⟨rfl, hb⟩; have HB2 := Lib.hid (HB.out.trans (hb.mono HB.out.size)); have HZ2 := Lib.hid (HZ.out.below hb HZ.out.lt); clear hb)
  obtain ⟨gx, hgx⟩ : ∃ gx, u2.heap.size = gx := ⟨_, rfl⟩
  obtain ⟨u3, hu3⟩ : ∃ u3, u2.alloc (.cells #[.string yn, .string yt, .int .i64 yc, .int .i64 ye, .int .i64 yu, .bool yh] 32) = u3 := ⟨_, rfl⟩
  have HB3 := Lib.hid (show Below u.heap.size u u3 by rw [← hu3]; exact HB2.out.alloc HB2.out.size _)
  have HX := Lib.hid (show Bk u3 gx 32 #[.string yn, .string yt, .int .i64 yc, .int .i64 ye, .int .i64 yu, .bool yh] by rw [← hu3, ← hgx]; exact Bk.new _ _ _)
  have HGX := Lib.hid (show u.heap.size ≤ gx by rw [← hgx]; exact HB2.out.size)
  have HZ3 := Lib.hid (show Bk u3 gz 32 #[.string ⟨#[]⟩, .string ⟨#[]⟩, .int .i64 0, .int .i64 0, .int .i64 0, .bool false] by rw [← hu3]; exact HZ2.out.below ((Below.refl _ _).alloc (Nat.le_refl _) _) HZ2.out.lt)
  rw [hu3, hgx]
  clear hu3 hgx HB2 HZ2
  cases is with
  | false =>
    have hn : hd = none := by cases hd with
      | none => rfl
      | some v => exact absurd HI.out (by simp)
    subst hn
    have HS := Lib.hid (show R = (none, b) by rw [← HR.out]; cases ck <;> rfl)
    have z0 : u3.cell? ⟨gz, 0, none⟩ = some (.string ⟨#[]⟩) := HZ3.out.cell 0
    have z1 : u3.cell? ⟨gz, 1, none⟩ = some (.string ⟨#[]⟩) := HZ3.out.cell 1
    have z2 : u3.cell? ⟨gz, 2, none⟩ = some (.int .i64 0) := HZ3.out.cell 2
    have z3 : u3.cell? ⟨gz, 3, none⟩ = some (.int .i64 0) := HZ3.out.cell 3
    have z4 : u3.cell? ⟨gz, 4, none⟩ = some (.int .i64 0) := HZ3.out.cell 4
    have z5 : u3.cell? ⟨gz, 5, none⟩ = some (.bool false) := HZ3.out.cell 5
    have f0 := HZ3.out.frozen 0
    have f1 := HZ3.out.frozen 1
    have f2 := HZ3.out.frozen 2
    have f3 := HZ3.out.frozen 3
    have f4 := HZ3.out.frozen 4
    have f5 := HZ3.out.frozen 5
    go_wp2_with (go_at_call 41; (with_reducible refine (HC.out _).mono ?_); rintro e u5 ⟨rfl, hu⟩; rw [hu]; clear hu)
    have HU : Bk ((((((u3.setCell ⟨gz, 0, none⟩ (.string ⟨#[]⟩)).setCell ⟨gz, 1, none⟩ (.string ⟨#[]⟩)).setCell ⟨gz, 2, none⟩ (.int .i64 0)).setCell ⟨gz, 3, none⟩ (.int .i64 0)).setCell ⟨gz, 4, none⟩ (.int .i64 0)).setCell ⟨gz, 5, none⟩ (.bool false)) gz 32 #[.string ⟨#[]⟩, .string ⟨#[]⟩, .int .i64 0, .int .i64 0, .int .i64 0, .bool false] := HZ3.out.set6 _ _ _ _ _ _
    have p0 := HU.cell 0; have p1 := HU.cell 1; have p2 := HU.cell 2; have p3 := HU.cell 3; have p4 := HU.cell 4; have p5 := HU.cell 5
    refine bodyPost_ret (v := .tuple #[.agg #[.string ⟨#[]⟩, .string ⟨#[]⟩, .int .i64 0, .int .i64 0, .int .i64 0, .bool false], .bool false]) ?_ rfl ⟨by rw [HS.out]; try rfl, by rw [HS.out]; exact HL.out.same (below_set6 HB3.out (by rw [HGZ.out]; exact Nat.le_refl _) _ _ _ _ _ _), Ke.nil (Ke.of (below_set6 HB3.out (by rw [HGZ.out]; exact Nat.le_refl _) _ _ _ _ _ _))⟩
    try simp [results, Try.f19, go_sem, p0, p1, p2, p3, p4, p5]
  | true =>
    have hn : hd = some ⟨yn, yt, yc, ye, yu, yh⟩ := by cases hd with
      | none => exact absurd HI.out (by simp)
      | some v => exact congrArg some HY.out
    subst hn
    cases ck with
    | false =>
      have HS := Lib.hid (show R = (none, b) by rw [← HR.out]; rfl)
      have z0 : u3.cell? ⟨gz, 0, none⟩ = some (.string ⟨#[]⟩) := HZ3.out.cell 0
      have z1 : u3.cell? ⟨gz, 1, none⟩ = some (.string ⟨#[]⟩) := HZ3.out.cell 1
      have z2 : u3.cell? ⟨gz, 2, none⟩ = some (.int .i64 0) := HZ3.out.cell 2
      have z3 : u3.cell? ⟨gz, 3, none⟩ = some (.int .i64 0) := HZ3.out.cell 3
      have z4 : u3.cell? ⟨gz, 4, none⟩ = some (.int .i64 0) := HZ3.out.cell 4
      have z5 : u3.cell? ⟨gz, 5, none⟩ = some (.bool false) := HZ3.out.cell 5
      have f0 := HZ3.out.frozen 0
      have f1 := HZ3.out.frozen 1
      have f2 := HZ3.out.frozen 2
      have f3 := HZ3.out.frozen 3
      have f4 := HZ3.out.frozen 4
      have f5 := HZ3.out.frozen 5
      go_wp2_with (go_at_call 41; (with_reducible refine (HC.out _).mono ?_); rintro e u5 ⟨rfl, hu⟩; rw [hu]; clear hu)
      have HU : Bk ((((((u3.setCell ⟨gz, 0, none⟩ (.string ⟨#[]⟩)).setCell ⟨gz, 1, none⟩ (.string ⟨#[]⟩)).setCell ⟨gz, 2, none⟩ (.int .i64 0)).setCell ⟨gz, 3, none⟩ (.int .i64 0)).setCell ⟨gz, 4, none⟩ (.int .i64 0)).setCell ⟨gz, 5, none⟩ (.bool false)) gz 32 #[.string ⟨#[]⟩, .string ⟨#[]⟩, .int .i64 0, .int .i64 0, .int .i64 0, .bool false] := HZ3.out.set6 _ _ _ _ _ _
      have p0 := HU.cell 0; have p1 := HU.cell 1; have p2 := HU.cell 2; have p3 := HU.cell 3; have p4 := HU.cell 4; have p5 := HU.cell 5
      refine bodyPost_ret (v := .tuple #[.agg #[.string ⟨#[]⟩, .string ⟨#[]⟩, .int .i64 0, .int .i64 0, .int .i64 0, .bool false], .bool false]) ?_ rfl ⟨by rw [HS.out]; try rfl, by rw [HS.out]; exact HL.out.same (below_set6 HB3.out (by rw [HGZ.out]; exact Nat.le_refl _) _ _ _ _ _ _), Ke.nil (Ke.of (below_set6 HB3.out (by rw [HGZ.out]; exact Nat.le_refl _) _ _ _ _ _ _))⟩
      try simp [results, Try.f19, go_sem, p0, p1, p2, p3, p4, p5]
    | true =>
      have HS := Lib.hid (show R = (some ⟨yn, yt, yc, ye, yu, yh⟩, ⟨drL s b.l, b.nx⟩) by rw [← HR.out]; rfl)
      have HD := Lib.hid (lrdrop_ok u3 bb B g most b s (HL.out.on HB3.out) HBL.out)
      go_upto_region 5 with (first | (go_at_call 41; (with_reducible refine (HC.out _).mono ?_); rintro e u5 ⟨rfl, hu⟩; rw [hu]; clear hu) | (go_at_call 42; (with_reducible refine HD.out.mono ?_); rintro e u6 ⟨rfl, hr, hk⟩; have HR6 := Lib.hid hr; have HK6 := Lib.hid hk; clear hr hk))
      have hz : gz ≠ bb := by have := HL.out.lt; have := HL.out.bs; have := HGZ.out; omega
      have hx : gx ≠ bb := by have := HL.out.lt; have := HL.out.bs; have := HGX.out; omega
      have HZ6 := Lib.hid (HZ3.out.ke HK6.out (by simpa using hz))
      have HX6 := Lib.hid (HX.out.ke HK6.out (by simpa using hx))
      have HE6 := Lib.hid (show Lr u6 bb B g most ⟨drL s b.l, b.nx⟩ ∧ True from ⟨HR6.out.weak (Nat.le_trans HL.out.bs HB3.out.size) HL.out.lt, trivial⟩)
      have z0 : u6.cell? ⟨gz, 0, none⟩ = some (.string ⟨#[]⟩) := HZ6.out.cell 0
      have z1 : u6.cell? ⟨gz, 1, none⟩ = some (.string ⟨#[]⟩) := HZ6.out.cell 1
      have z2 : u6.cell? ⟨gz, 2, none⟩ = some (.int .i64 0) := HZ6.out.cell 2
      have z3 : u6.cell? ⟨gz, 3, none⟩ = some (.int .i64 0) := HZ6.out.cell 3
      have z4 : u6.cell? ⟨gz, 4, none⟩ = some (.int .i64 0) := HZ6.out.cell 4
      have z5 : u6.cell? ⟨gz, 5, none⟩ = some (.bool false) := HZ6.out.cell 5
      have f0 := HZ6.out.frozen 0
      have f1 := HZ6.out.frozen 1
      have f2 := HZ6.out.frozen 2
      have f3 := HZ6.out.frozen 3
      have f4 := HZ6.out.frozen 4
      have f5 := HZ6.out.frozen 5
      have y0 : u6.cell? ⟨gx, 0, none⟩ = some (.string yn) := HX6.out.cell 0
      have y1 : u6.cell? ⟨gx, 1, none⟩ = some (.string yt) := HX6.out.cell 1
      have y2 : u6.cell? ⟨gx, 2, none⟩ = some (.int .i64 yc) := HX6.out.cell 2
      have y3 : u6.cell? ⟨gx, 3, none⟩ = some (.int .i64 ye) := HX6.out.cell 3
      have y4 : u6.cell? ⟨gx, 4, none⟩ = some (.int .i64 yu) := HX6.out.cell 4
      have y5 : u6.cell? ⟨gx, 5, none⟩ = some (.bool yh) := HX6.out.cell 5
      have k0 := HX6.out.frozen 0
      have k1 := HX6.out.frozen 1
      have k2 := HX6.out.frozen 2
      have k3 := HX6.out.frozen 3
      have k4 := HX6.out.frozen 4
      have k5 := HX6.out.frozen 5
      go_wp2
      have HU : Bk ((((((u6.setCell ⟨gz, 0, none⟩ (.string yn)).setCell ⟨gz, 1, none⟩ (.string yt)).setCell ⟨gz, 2, none⟩ (.int .i64 yc)).setCell ⟨gz, 3, none⟩ (.int .i64 ye)).setCell ⟨gz, 4, none⟩ (.int .i64 yu)).setCell ⟨gz, 5, none⟩ (.bool yh)) gz 32 #[.string yn, .string yt, .int .i64 yc, .int .i64 ye, .int .i64 yu, .bool yh] := HZ6.out.set6 _ _ _ _ _ _
      have p0 := HU.cell 0; have p1 := HU.cell 1; have p2 := HU.cell 2; have p3 := HU.cell 3; have p4 := HU.cell 4; have p5 := HU.cell 5
      refine bodyPost_ret (v := .tuple #[.agg #[.string yn, .string yt, .int .i64 yc, .int .i64 ye, .int .i64 yu, .bool yh], .bool true]) ?_ rfl ⟨by rw [HS.out]; try rfl, by rw [HS.out]; exact HL.out.new HB3.out (HR6.out.set6 (g := gz) HZ3.out.lt hz _ _ _ _ _ _), ke_set6 ((Ke.nil (Ke.of HB3.out)).trans HK6.out) (by rw [HGZ.out]; exact Nat.le_refl _) _ _ _ _ _ _⟩
      try simp [results, Try.f19, go_sem, p0, p1, p2, p3, p4, p5]
set_option maxRecDepth 100000 in
set_option maxHeartbeats 4000000 in
theorem lrrenew_q (u : World) (bb B : Nat) (g most : Int) (b : Bo) (ten s : ByteArray) (ep now ttl : Int) (h : Lr u bb B g most b) (hl : b.l.length ≤ 1000000) (hup : UpL b.l) (hm : 0 ≤ most) (hm2 : most ≤ 1073741824) :
    Calls Try.prog 15 #[.pointer (some ⟨bb, 0, none⟩), .string ten, .string s, .int .i64 ep, .int .i64 now, .int .i64 ttl] u fun e u' => e = .returned (.tuple #[.agg (lsc (renewL most b ten s ep now ttl).1), .int .i64 (renewL most b ten s ep now ttl).2.1]) ∧ Lq u u' bb B g most (renewL most b ten s ep now ttl).2.2 ∧ Ke [bb] u u' := by
  obtain ⟨u1, hu1⟩ : ∃ u1, u.alloc (.cells #[.string ⟨#[]⟩, .string ⟨#[]⟩, .int .i64 0, .int .i64 0, .int .i64 0, .bool false] 32) = u1 := ⟨_, rfl⟩
  have HB := Lib.hid (show Below u.heap.size u u1 by rw [← hu1]; exact (Below.refl _ _).alloc (Nat.le_refl _) _)
  have HZ := Lib.hid (show Bk u1 u.heap.size 32 #[.string ⟨#[]⟩, .string ⟨#[]⟩, .int .i64 0, .int .i64 0, .int .i64 0, .bool false] by rw [← hu1]; exact Bk.new _ _ _)
  have HH := Lib.hid (lrown_ok u1 bb B g most b ten s ep now (h.on HB.out) hl)
  have HC := Lib.hid (fun w => lrtime_ok ttl w)
  have HL := Lib.hid h
  have HBL := Lib.hid (And.intro hl hup)
  clear h hl hup
  obtain ⟨R, hR⟩ : ∃ R, renewL most b ten s ep now ttl = R := ⟨_, rfl⟩
  have hr := hR
  simp only [hR]
  unfold renewL at hr
  obtain ⟨ow, how⟩ : ∃ ow, ownL b ten s ep now = ow := ⟨_, rfl⟩
  have hclk : ow.2 = 0 → clkB now = true := fun hh => own_clk (by rw [how]; exact hh)
  obtain ⟨ck, hck⟩ : ∃ ck, timB ttl = ck := ⟨_, rfl⟩
  simp only [how] at HH hr
  have hck0 := hck
  simp only [hck] at HC hr
  have HR := Lib.hid hr
  clear how hr hR hck
  obtain ⟨⟨yn, yt, yc, ye, yu, yh⟩, er⟩ := ow
  have arm : True := trivial
  obtain ⟨gz, hgz⟩ : ∃ gz, u.heap.size = gz := ⟨_, rfl⟩
  have HGZ := Lib.hid hgz
  cases ck with
  | false =>
    have HS := Lib.hid (show R = (zeroLs, 1, b) by rw [← HR.out]; rfl)
    clear hclk hck0
    go_enter Try.func15, Try.ntmps15
    go_upto_region 1 with fail
    try rw [hu1]
    try rw [hgz]
    rw [hgz] at HZ
    clear hu1 hgz
    have z0 : u1.cell? ⟨gz, 0, none⟩ = some (.string ⟨#[]⟩) := HZ.out.cell 0
    have z1 : u1.cell? ⟨gz, 1, none⟩ = some (.string ⟨#[]⟩) := HZ.out.cell 1
    have z2 : u1.cell? ⟨gz, 2, none⟩ = some (.int .i64 0) := HZ.out.cell 2
    have z3 : u1.cell? ⟨gz, 3, none⟩ = some (.int .i64 0) := HZ.out.cell 3
    have z4 : u1.cell? ⟨gz, 4, none⟩ = some (.int .i64 0) := HZ.out.cell 4
    have z5 : u1.cell? ⟨gz, 5, none⟩ = some (.bool false) := HZ.out.cell 5
    have f0 := HZ.out.frozen 0
    have f1 := HZ.out.frozen 1
    have f2 := HZ.out.frozen 2
    have f3 := HZ.out.frozen 3
    have f4 := HZ.out.frozen 4
    have f5 := HZ.out.frozen 5
    go_wp2_with (go_at_call 34; (with_reducible refine (HC.out _).mono ?_); rintro e u5 ⟨rfl, hu⟩; rw [hu]; clear hu)
    have HU : Bk ((((((u1.setCell ⟨gz, 0, none⟩ (.string ⟨#[]⟩)).setCell ⟨gz, 1, none⟩ (.string ⟨#[]⟩)).setCell ⟨gz, 2, none⟩ (.int .i64 0)).setCell ⟨gz, 3, none⟩ (.int .i64 0)).setCell ⟨gz, 4, none⟩ (.int .i64 0)).setCell ⟨gz, 5, none⟩ (.bool false)) gz 32 #[.string ⟨#[]⟩, .string ⟨#[]⟩, .int .i64 0, .int .i64 0, .int .i64 0, .bool false] := HZ.out.set6 _ _ _ _ _ _
    have p0 := HU.cell 0; have p1 := HU.cell 1; have p2 := HU.cell 2; have p3 := HU.cell 3; have p4 := HU.cell 4; have p5 := HU.cell 5
    refine bodyPost_ret (v := .tuple #[.agg #[.string ⟨#[]⟩, .string ⟨#[]⟩, .int .i64 0, .int .i64 0, .int .i64 0, .bool false], .int .i64 (1)]) ?_ rfl ⟨by rw [HS.out]; try rfl, by rw [HS.out]; exact HL.out.same (below_set6 HB.out (by rw [HGZ.out]; exact Nat.le_refl _) _ _ _ _ _ _), Ke.nil (Ke.of (below_set6 HB.out (by rw [HGZ.out]; exact Nat.le_refl _) _ _ _ _ _ _))⟩
    try simp [results, Try.f15, go_sem, p0, p1, p2, p3, p4, p5]
  | true =>
    by_cases he : er = 0
    · subst he
      have hc := hclk rfl
      clear hclk
      unfold clkB at hc
      unfold timB at hck0
      simp only [Bool.and_eq_true, decide_eq_true_eq] at hc hck0
      obtain ⟨hn1, hn2⟩ := hc
      obtain ⟨ht1, ht2⟩ := hck0
      obtain ⟨M, rfl⟩ := Int.eq_ofNat_of_zero_le hm
      obtain ⟨N, rfl⟩ := Int.eq_ofNat_of_zero_le hn1
      obtain ⟨D, rfl⟩ := Int.eq_ofNat_of_zero_le (show 0 ≤ ttl by omega)
      obtain ⟨Q, hQ⟩ : ∃ Q : Nat, min (D : Int) (M : Int) = (Q : Int) := ⟨min D M, by omega⟩
      obtain ⟨S, hS⟩ : ∃ S : Nat, (N : Int) + (Q : Int) = (S : Int) := ⟨N + Q, by omega⟩
      obtain ⟨hw, hw3⟩ := iwrap ((N : Int) + (Q : Int)) S hS (by omega)
      have HS := Lib.hid (show R = ((⟨yn, yt, yc, ye, (S : Int), yh⟩ : Ls), 0, (⟨ptL ⟨yn, yt, yc, ye, (S : Int), yh⟩ b.l, b.nx⟩ : Bo)) by rw [← HR.out, if_neg (by simp), if_pos rfl, hQ, hS])
      clear hn1 hn2 ht1 ht2 hm hm2 hS HR
      go_enter Try.func15, Try.ntmps15
      go_upto_region 1 with fail
      try rw [hu1]
      try rw [hgz]
      rw [hgz] at HZ
      clear hu1 hgz
      go_upto_region 4 with (first | (go_at_call 34; (with_reducible refine (HC.out _).mono ?_); rintro e u5 ⟨rfl, hu⟩; rw [hu]; clear hu) | (go_at_call 38; (with_reducible refine HH.out.mono ?_); rintro e u2 ⟨rfl, hb⟩; have HB2 := Lib.hid (HB.out.trans (hb.mono HB.out.size)); have HZ2 := Lib.hid (HZ.out.below hb HZ.out.lt); clear hb))
      obtain ⟨gx, hgx⟩ : ∃ gx, u2.heap.size = gx := ⟨_, rfl⟩
      obtain ⟨u3, hu3⟩ : ∃ u3, u2.alloc (.cells #[.string yn, .string yt, .int .i64 yc, .int .i64 ye, .int .i64 yu, .bool yh] 32) = u3 := ⟨_, rfl⟩
      have HB3 := Lib.hid (show Below u.heap.size u u3 by rw [← hu3]; exact HB2.out.alloc HB2.out.size _)
      have HX := Lib.hid (show Bk u3 gx 32 #[.string yn, .string yt, .int .i64 yc, .int .i64 ye, .int .i64 yu, .bool yh] by rw [← hu3, ← hgx]; exact Bk.new _ _ _)
      have HGX := Lib.hid (show u.heap.size ≤ gx by rw [← hgx]; exact HB2.out.size)
      have HGN := Lib.hid (show gz ≠ gx by rw [← hgx]; have := HZ2.out.lt; omega)
      have HZ3 := Lib.hid (show Bk u3 gz 32 #[.string ⟨#[]⟩, .string ⟨#[]⟩, .int .i64 0, .int .i64 0, .int .i64 0, .bool false] by rw [← hu3]; exact HZ2.out.below ((Below.refl _ _).alloc (Nat.le_refl _) _) HZ2.out.lt)
      try dsimp only
      rw [hu3]
      try rw [hgx]
      clear hu3 hgx HB2 HZ2
      have y0 : u3.cell? ⟨gx, 0, none⟩ = some (.string yn) := HX.out.cell 0
      have y1 : u3.cell? ⟨gx, 1, none⟩ = some (.string yt) := HX.out.cell 1
      have y2 : u3.cell? ⟨gx, 2, none⟩ = some (.int .i64 yc) := HX.out.cell 2
      have y3 : u3.cell? ⟨gx, 3, none⟩ = some (.int .i64 ye) := HX.out.cell 3
      have y4 : u3.cell? ⟨gx, 4, none⟩ = some (.int .i64 yu) := HX.out.cell 4
      have y5 : u3.cell? ⟨gx, 5, none⟩ = some (.bool yh) := HX.out.cell 5
      have k0 := HX.out.frozen 0
      have k1 := HX.out.frozen 1
      have k2 := HX.out.frozen 2
      have k3 := HX.out.frozen 3
      have k4 := HX.out.frozen 4
      have k5 := HX.out.frozen 5
      have e2 : u3.cell? ⟨bb, 2, none⟩ = some (.int .i64 (M : Int)) := by
        obtain ⟨⟨A, c, h1, _⟩, _, _⟩ := HL.out
        exact (h1.below HB3.out h1.lt).cell 2
      go_upto_region 7 with fail
      have hQ2 : (if M < D then (M : Int) else (D : Int)) = (Q : Int) := by split <;> omega
      have hw2 : wrap64 ((N : Int) + (Q : Int)) = (S : Int) := by first | exact hw3 | simpa [IntKind.wrap] using hw
      try rw [hQ2]
      try rw [hw2]
      clear hQ2 hw2 hQ hw
      obtain ⟨u5, hu5⟩ : ∃ u5, u3.setCell ⟨gx, 4, none⟩ (.int .i64 (S : Int)) = u5 := ⟨_, rfl⟩
      have HB5 := Lib.hid (show Below u.heap.size u u5 by rw [← hu5]; exact HB3.out.setCell (p := ⟨gx, 4, none⟩) HGX.out _)
      have HX5 := Lib.hid (show Bk u5 gx 32 #[.string yn, .string yt, .int .i64 yc, .int .i64 ye, .int .i64 (S : Int), .bool yh] by rw [← hu5]; simpa only [List.setIfInBounds_toArray, List.set_cons_zero, List.set_cons_succ] using HX.out.set 4 (.int .i64 (S : Int)))
      have HZ5 := Lib.hid (show Bk u5 gz 32 #[.string ⟨#[]⟩, .string ⟨#[]⟩, .int .i64 0, .int .i64 0, .int .i64 0, .bool false] by rw [← hu5]; exact HZ3.out.far (p := ⟨gx, 4, none⟩) HGN.out _)
      rw [hu5]
      clear hu5 HB3 HX y0 y1 y2 y3 y4 y5 k0 k1 k2 k3 k4 k5 e2
      have y0 : u5.cell? ⟨gx, 0, none⟩ = some (.string yn) := HX5.out.cell 0
      have y1 : u5.cell? ⟨gx, 1, none⟩ = some (.string yt) := HX5.out.cell 1
      have y2 : u5.cell? ⟨gx, 2, none⟩ = some (.int .i64 yc) := HX5.out.cell 2
      have y3 : u5.cell? ⟨gx, 3, none⟩ = some (.int .i64 ye) := HX5.out.cell 3
      have y4 : u5.cell? ⟨gx, 4, none⟩ = some (.int .i64 (S : Int)) := HX5.out.cell 4
      have y5 : u5.cell? ⟨gx, 5, none⟩ = some (.bool yh) := HX5.out.cell 5
      have k0 := HX5.out.frozen 0
      have k1 := HX5.out.frozen 1
      have k2 := HX5.out.frozen 2
      have k3 := HX5.out.frozen 3
      have k4 := HX5.out.frozen 4
      have k5 := HX5.out.frozen 5
      have HP := Lib.hid (lrput_ok u5 bb B g (M : Int) b ⟨yn, yt, yc, ye, (S : Int), yh⟩ (HL.out.on HB5.out) HBL.out.1 HBL.out.2)
      go_upto_region 8 with (go_at_call 39; (with_reducible refine HP.out.mono ?_); rintro e u6 ⟨rfl, hr, hk⟩; have HR6 := Lib.hid hr; have HK6 := Lib.hid hk; clear hr hk)
      clear y0 y1 y2 y3 y4 y5 k0 k1 k2 k3 k4 k5
      have hz : gz ≠ bb := by have := HL.out.lt; have := HL.out.bs; have := HGZ.out; omega
      have hx : gx ≠ bb := by have := HL.out.lt; have := HL.out.bs; have := HGX.out; omega
      have HZ6 := Lib.hid (HZ5.out.ke HK6.out (by simpa using hz))
      have HX6 := Lib.hid (HX5.out.ke HK6.out (by simpa using hx))
      have z0 : u6.cell? ⟨gz, 0, none⟩ = some (.string ⟨#[]⟩) := HZ6.out.cell 0
      have z1 : u6.cell? ⟨gz, 1, none⟩ = some (.string ⟨#[]⟩) := HZ6.out.cell 1
      have z2 : u6.cell? ⟨gz, 2, none⟩ = some (.int .i64 0) := HZ6.out.cell 2
      have z3 : u6.cell? ⟨gz, 3, none⟩ = some (.int .i64 0) := HZ6.out.cell 3
      have z4 : u6.cell? ⟨gz, 4, none⟩ = some (.int .i64 0) := HZ6.out.cell 4
      have z5 : u6.cell? ⟨gz, 5, none⟩ = some (.bool false) := HZ6.out.cell 5
      have f0 := HZ6.out.frozen 0
      have f1 := HZ6.out.frozen 1
      have f2 := HZ6.out.frozen 2
      have f3 := HZ6.out.frozen 3
      have f4 := HZ6.out.frozen 4
      have f5 := HZ6.out.frozen 5
      have y0 : u6.cell? ⟨gx, 0, none⟩ = some (.string yn) := HX6.out.cell 0
      have y1 : u6.cell? ⟨gx, 1, none⟩ = some (.string yt) := HX6.out.cell 1
      have y2 : u6.cell? ⟨gx, 2, none⟩ = some (.int .i64 yc) := HX6.out.cell 2
      have y3 : u6.cell? ⟨gx, 3, none⟩ = some (.int .i64 ye) := HX6.out.cell 3
      have y4 : u6.cell? ⟨gx, 4, none⟩ = some (.int .i64 (S : Int)) := HX6.out.cell 4
      have y5 : u6.cell? ⟨gx, 5, none⟩ = some (.bool yh) := HX6.out.cell 5
      have k0 := HX6.out.frozen 0
      have k1 := HX6.out.frozen 1
      have k2 := HX6.out.frozen 2
      have k3 := HX6.out.frozen 3
      have k4 := HX6.out.frozen 4
      have k5 := HX6.out.frozen 5
      go_wp2
      have HU : Bk ((((((u6.setCell ⟨gz, 0, none⟩ (.string yn)).setCell ⟨gz, 1, none⟩ (.string yt)).setCell ⟨gz, 2, none⟩ (.int .i64 yc)).setCell ⟨gz, 3, none⟩ (.int .i64 ye)).setCell ⟨gz, 4, none⟩ (.int .i64 (S : Int))).setCell ⟨gz, 5, none⟩ (.bool yh)) gz 32 #[.string yn, .string yt, .int .i64 yc, .int .i64 ye, .int .i64 (S : Int), .bool yh] := HZ6.out.set6 _ _ _ _ _ _
      have p0 := HU.cell 0; have p1 := HU.cell 1; have p2 := HU.cell 2; have p3 := HU.cell 3; have p4 := HU.cell 4; have p5 := HU.cell 5
      refine bodyPost_ret (v := .tuple #[.agg #[.string yn, .string yt, .int .i64 yc, .int .i64 ye, .int .i64 (S : Int), .bool yh], .int .i64 (0)]) ?_ rfl ⟨by rw [HS.out]; try rfl, by rw [HS.out]; exact HL.out.new HB5.out (HR6.out.set6 (g := gz) HZ5.out.lt hz _ _ _ _ _ _), ke_set6 ((Ke.nil (Ke.of HB5.out)).trans HK6.out) (by rw [HGZ.out]; exact Nat.le_refl _) _ _ _ _ _ _⟩
      try simp [results, Try.f15, go_sem, p0, p1, p2, p3, p4, p5]
    · have he2 : decide (er = 0) = false := decide_eq_false he
      have he3 : (er == 0) = false := by simp [he]
      have HS := Lib.hid (show R = (zeroLs, er, b) by rw [← HR.out, if_neg (by simp), if_neg he])
      clear hclk hck0
      go_enter Try.func15, Try.ntmps15
      go_upto_region 1 with fail
      try rw [hu1]
      try rw [hgz]
      rw [hgz] at HZ
      clear hu1 hgz
      go_upto_region 4 with (first | (go_at_call 34; (with_reducible refine (HC.out _).mono ?_); rintro e u5 ⟨rfl, hu⟩; rw [hu]; clear hu) | (go_at_call 38; (with_reducible refine HH.out.mono ?_); rintro e u2 ⟨rfl, hb⟩; have HB2 := Lib.hid (HB.out.trans (hb.mono HB.out.size)); have HZ2 := Lib.hid (HZ.out.below hb HZ.out.lt); clear hb))
      obtain ⟨u3, hu3⟩ : ∃ u3, u2.alloc (.cells #[.string yn, .string yt, .int .i64 yc, .int .i64 ye, .int .i64 yu, .bool yh] 32) = u3 := ⟨_, rfl⟩
      have HB3 := Lib.hid (show Below u.heap.size u u3 by rw [← hu3]; exact HB2.out.alloc HB2.out.size _)
      have HZ3 := Lib.hid (show Bk u3 gz 32 #[.string ⟨#[]⟩, .string ⟨#[]⟩, .int .i64 0, .int .i64 0, .int .i64 0, .bool false] by rw [← hu3]; exact HZ2.out.below ((Below.refl _ _).alloc (Nat.le_refl _) _) HZ2.out.lt)
      try dsimp only
      rw [hu3]
      clear hu3 HB2 HZ2
      have z0 : u3.cell? ⟨gz, 0, none⟩ = some (.string ⟨#[]⟩) := HZ3.out.cell 0
      have z1 : u3.cell? ⟨gz, 1, none⟩ = some (.string ⟨#[]⟩) := HZ3.out.cell 1
      have z2 : u3.cell? ⟨gz, 2, none⟩ = some (.int .i64 0) := HZ3.out.cell 2
      have z3 : u3.cell? ⟨gz, 3, none⟩ = some (.int .i64 0) := HZ3.out.cell 3
      have z4 : u3.cell? ⟨gz, 4, none⟩ = some (.int .i64 0) := HZ3.out.cell 4
      have z5 : u3.cell? ⟨gz, 5, none⟩ = some (.bool false) := HZ3.out.cell 5
      have f0 := HZ3.out.frozen 0
      have f1 := HZ3.out.frozen 1
      have f2 := HZ3.out.frozen 2
      have f3 := HZ3.out.frozen 3
      have f4 := HZ3.out.frozen 4
      have f5 := HZ3.out.frozen 5
      go_wp2
      have HU : Bk ((((((u3.setCell ⟨gz, 0, none⟩ (.string ⟨#[]⟩)).setCell ⟨gz, 1, none⟩ (.string ⟨#[]⟩)).setCell ⟨gz, 2, none⟩ (.int .i64 0)).setCell ⟨gz, 3, none⟩ (.int .i64 0)).setCell ⟨gz, 4, none⟩ (.int .i64 0)).setCell ⟨gz, 5, none⟩ (.bool false)) gz 32 #[.string ⟨#[]⟩, .string ⟨#[]⟩, .int .i64 0, .int .i64 0, .int .i64 0, .bool false] := HZ3.out.set6 _ _ _ _ _ _
      have p0 := HU.cell 0; have p1 := HU.cell 1; have p2 := HU.cell 2; have p3 := HU.cell 3; have p4 := HU.cell 4; have p5 := HU.cell 5
      refine bodyPost_ret (v := .tuple #[.agg #[.string ⟨#[]⟩, .string ⟨#[]⟩, .int .i64 0, .int .i64 0, .int .i64 0, .bool false], .int .i64 (er)]) ?_ rfl ⟨by rw [HS.out]; try rfl, by rw [HS.out]; exact HL.out.same (below_set6 HB3.out (by rw [HGZ.out]; exact Nat.le_refl _) _ _ _ _ _ _), Ke.nil (Ke.of (below_set6 HB3.out (by rw [HGZ.out]; exact Nat.le_refl _) _ _ _ _ _ _))⟩
      try simp [results, Try.f15, go_sem, p0, p1, p2, p3, p4, p5]
end Go.Proofs.Ytpbobmiajjgekaa
