/- ConfigTells: the walk. (Written by gen_czt.py.) -/
import Derived.Test.YtekobdmlgbffnaaGreatDoorCzE
import Derived.Test.YtekobdmlgbffnaaGreatDoorG21
import Derived.Test.YtekobdmlgbffnaaGreatDoorCz6
import Derived.Test.YtekobdmlgbffnaaGreatDoorG23
import Derived.Test.YtekobdmlgbffnaaGreatDoorCgG
import Derived.Test.YtekobdmlgbffnaaGreatDoorCgSame
import Derived.Test.YtekobdmlgbffnaaGreatDoorCg6
import Derived.Test.YtekobdmlgbffnaaGreatDoorG4
namespace Go.Proofs.YtekobdmlgbffnaaGreatDoor
set_option linter.unusedVariables false
set_option maxRecDepth 100000
set_option linter.unusedSimpArgs false
open Go.RowKit

theorem InCf.onT {w u : World} {x : Cv} (h : InCf w x) (hb : Below w.heap.size w u) : InCf u x := ⟨h.rc.on hb, h.n, fun y hy => ⟨(h.each y hy).r.on hb, (h.each y hy).nn, (h.each y hy).nk⟩⟩
/-- What Parse tells, whichever of the two. -/
def PaW (c : Cg) (ke kn : Int) (w : World) (e : Ending) (w' : World) : Prop := ∃ (d0 d1 d2 d3 : Int) (us : List Tv) (D : Option Addr) (kd : Nat), e = .returned (.tuple #[.agg #[.int .i64 d0, .int .i64 d1, .int .i64 d2, .int .i64 d3, .slice D us.length kd], .int .i64 ke, .int .i64 kn]) ∧ Cv.cg ⟨d0, d1, d2, d3, us, D, kd⟩ = c ∧ RC w' ⟨d0, d1, d2, d3, us, D, kd⟩ ∧ Below w.heap.size w w'
theorem pae_one (s : ByteArray) : ∃ (c : Cg) (ke kn : Int), ∀ w e w', PaE s w e w' → PaW c ke kn w e w' := by
  by_cases hs : s.size ≤ 4096
  · cases hp : parseC s with
    | error n => exact ⟨zeroC, 91, n, fun w e w' h => by
        obtain ⟨hb, rfl⟩ := parE_err h hs hp
        exact ⟨0, 0, 0, 0, [], none, 0, rfl, rfl, rc_none w', hb⟩⟩
    | ok c => exact ⟨c, 0, 0, fun w e w' h => by
        obtain ⟨hb, ⟨d0, d1, d2, d3, us, D, kd⟩, hx, hr, he⟩ := parE_get h hs hp
        exact ⟨d0, d1, d2, d3, us, D, kd, he, hx, hr, hb⟩⟩
  · exact ⟨zeroC, 2, 0, fun w e w' h => by
      obtain ⟨hb, h2⟩ := h
      rcases h2 with ⟨_, rfl⟩ | ⟨h2, _⟩
      · exact ⟨0, 0, 0, 0, [], none, 0, rfl, rfl, rc_none w', hb⟩
      · exact absurd h2 hs⟩
/-- What the law holds behind its four calls. -/
structure Tel (w : World) (g0 g1 g2 g3 g4 : Nat) (x x1 x2 : Cv) (y z : Tv) (u : World) : Prop where
  c : Bx w g0 24 (ccs x) u
  b1 : Bk u g1 24 (ccs x1)
  b2 : Bk u g2 24 (ccs x2)
  b3 : Bk u g3 33 (tcs y)
  b4 : Bk u g4 33 (tcs z)
  r1 : RC u x1
  r2 : RC u x2
  t3 : RT1 u y
  t4 : RT1 u z
theorem Tel.on {w : World} {g0 g1 g2 g3 g4 : Nat} {x x1 x2 : Cv} {y z : Tv} {u u' : World} (h : Tel w g0 g1 g2 g3 g4 x x1 x2 y z u) (hb : Below u.heap.size u u') : Tel w g0 g1 g2 g3 g4 x x1 x2 y z u' :=
  ⟨h.c.on hb, h.b1.below hb h.b1.lt, h.b2.below hb h.b2.lt, h.b3.below hb h.b3.lt, h.b4.below hb h.b4.lt, h.r1.on hb, h.r2.on hb, h.t3.on hb, h.t4.on hb⟩
theorem rt1_get {w : World} {x : Cv} (h : RC w x) (nm : ByteArray) : RT1 w ((fT nm x.ts).getD zeroTv) := by
  cases hf : fT nm x.ts with
  | none => exact RT1.zero w
  | some y => exact h.r.each y (List.mem_of_find?_eq_some hf)
theorem gen_hT {P : Program} {md : Region.Mode} {ops : Array Oper} {Q : Exit → Act → World → Prop} {S' : World → Prop} {fuel : Nat} {listed : Array Bool} {a : Act} {w : World} (S : World → Prop) (hS : S w) (h : ∀ u, S u → wpAnyH P md ops Q S' fuel listed a u) : wpAnyH P md ops Q S' fuel listed a w := h w hS

set_option maxRecDepth 100000 in
set_option maxHeartbeats 16000000 in
theorem walk_ConfigTells (x : Cv) (s nm : ByteArray) (w : World) (h : InCf w x) (ws : s.size ≤ maxLen) (wn : nm.size ≤ maxLen) (hG : True) :
    Calls Tryz.prog 3 #[.agg (ccs x), .string s, .string nm] w fun e w' => e = .returned (.bool true) ∧ Below w.heap.size w w' := by
  unfold maxLen at ws wn
  have HGR := Lib.hid (fun u (hu : Below w.heap.size w u) => great_ok x u (h.onT hu))
  have HRI := Lib.hid (fun u (hu : Below w.heap.size w u) => right_cfg x u (h.rc.on hu))
  have HRJ := Lib.hid (fun u (hu : Below w.heap.size w u) => rfright_ok x u (h.rc.on hu))
  have HPR := Lib.hid (fun u (hu : Below w.heap.size w u) => print_ok x u (h.rc.on hu))
  have HPQ := Lib.hid (fun u (hu : Below w.heap.size w u) => rprint_ok x u (h.rc.on hu))
  have HFC := Lib.hid (fun u (hu : Below w.heap.size w u) (hs : SmG x) => find_cfg2 x nm u (h.rc.on hu) (fun y hy => by have := (hs.t y hy).nn; have := (hs.t y hy).nk; omega))
  have HRC := Lib.hid h.rc
  have HZR := Lib.hid (fun u (hu : Below w.heap.size w u) => rt1_get (h.rc.on hu) nm)
  have hfit := h.rc.f
  obtain ⟨CC, ke, kn, hpae⟩ := pae_one s
  have HPA := Lib.hid (fun u => (cparse_ok s u).mono (fun e u' hh => hpae u e u' hh))
  have HPB := Lib.hid (fun u => (rparseC_ok s u).mono (fun e u' hh => hpae u e u' hh))
  have hke : (ke == ke) = true := beq_self_eq_true ke
  have hkn : (kn == kn) = true := beq_self_eq_true kn
  clear hpae
  obtain ⟨a0, a1, a2, a3, ts, A, c⟩ := x
  dsimp only at hfit
  obtain ⟨n, hn⟩ : ∃ n, ts.length = n := ⟨_, rfl⟩
  have HN := Lib.hid hn
  have hcap := hfit.cap
  have hmax := hfit.max
  rw [hn] at hcap
  have hn9 : n ≤ 9223372036854775807 := by omega
  have HFD := Lib.hid (fun u (hu : Below w.heap.size w u) => rfind_ok (.int .i64 a0) (.int .i64 a1) (.int .i64 a2) (.int .i64 a3) A ts n c nm u (HRC.out.r.on hu) hn hn9)
  obtain ⟨R, hR⟩ : ∃ R, cfgB (Cv.cg (⟨a0, a1, a2, a3, ts, A, c⟩ : Cv)) = R := ⟨_, rfl⟩
  obtain ⟨P, hP⟩ : ∃ P, printT (Cv.cg (⟨a0, a1, a2, a3, ts, A, c⟩ : Cv)) = P := ⟨_, rfl⟩
  rw [hR] at HRI HRJ
  rw [hP] at HPR HPQ
  obtain ⟨Fb, hF⟩ : ∃ F, (fT nm ts).isSome = F := ⟨_, rfl⟩
  obtain ⟨Z, hZ⟩ : ∃ Z, (fT nm ts).getD zeroTv = Z := ⟨_, rfl⟩
  simp only [hF, hZ] at HFC HFD HZR
  have hRR : (R == R) = true := by cases R <;> rfl
  have hFF : (Fb == Fb) = true := by cases Fb <;> rfl
  simp only [ccs, hn] at HGR HRI HRJ HPR HPQ HFC ⊢
  have HX := Lib.hid (show Bx w w.heap.size 24 #[.int .i64 a0, .int .i64 a1, .int .i64 a2, .int .i64 a3, .slice A n c] (w.alloc (.cells #[.int .i64 a0, .int .i64 a1, .int .i64 a2, .int .i64 a3, .slice A n c] 24)) from Bx.new w _ _)
  clear h hn hfit hR hP hF hZ
  obtain ⟨⟨zn, za, zb, znl, zkl⟩, An2, cn2, Ak2, ck2⟩ := Z
  simp only [tcs] at HFD
  obtain ⟨nb, hnb⟩ : ∃ b, decide ((5000 : Int) < (s.size : Int)) = b := ⟨_, rfl⟩
  obtain ⟨nb2, hnb2⟩ : ∃ b, decide ((1000 : Int) < (nm.size : Int)) = b := ⟨_, rfl⟩
  go_enter Tryz.func3, Tryz.ntmps3
  go_upto_region 2 with (go_at_call 5; refine (chead_ok _).mono ?_; rintro e u1 ⟨rfl, hb⟩; have HX1 := Lib.hid (HX.out.on hb); clear hb)
  obtain ⟨g0, hg0⟩ : ∃ g, w.heap.size = g := ⟨_, rfl⟩
  have HG0 := Lib.hid hg0
  rw [hg0] at HX1 ⊢
  clear hg0
  have e0 : u1.cell? ⟨g0, 0, none⟩ = some (.int .i64 a0) := HX1.out.b.cell 0
  have e1 : u1.cell? ⟨g0, 1, none⟩ = some (.int .i64 a1) := HX1.out.b.cell 1
  have e2 : u1.cell? ⟨g0, 2, none⟩ = some (.int .i64 a2) := HX1.out.b.cell 2
  have e3 : u1.cell? ⟨g0, 3, none⟩ = some (.int .i64 a3) := HX1.out.b.cell 3
  have e4 : u1.cell? ⟨g0, 4, none⟩ = some (.slice A n c) := HX1.out.b.cell 4
  cases nb with
  | true =>
    go_wp2_with (go_at_call 6; (with_reducible refine (HGR.out _ HX1.out.l).mono ?_); rintro e u2 ⟨g, rfl, _, hb⟩; have HX2 := Lib.hid (HX1.out.on hb); clear hb; cases g)
    all_goals go_ret
    all_goals exact ⟨rfl, HX2.out.l⟩
  | false =>
  cases nb2 with
  | true =>
    go_wp2_with (go_at_call 6; (with_reducible refine (HGR.out _ HX1.out.l).mono ?_); rintro e u2 ⟨g, rfl, _, hb⟩; have HX2 := Lib.hid (HX1.out.on hb); clear hb; cases g)
    all_goals go_ret
    all_goals exact ⟨rfl, HX2.out.l⟩
  | false =>
  go_upto_region 4 with (go_at_call 6; (with_reducible refine (HGR.out _ HX1.out.l).mono ?_); rintro e u2 ⟨g, rfl, hsm, hb⟩; have HX2 := Lib.hid (HX1.out.on hb); have HSM := Lib.hid hsm; clear hb hsm; cases g)
  any_goals (go_ret; exact ⟨rfl, HX2.out.l⟩)
  have HSG := Lib.hid (show SmG (⟨a0, a1, a2, a3, ts, A, c⟩ : Cv) from by first | exact HSM.out trivial | exact HSM.out rfl)
  clear HSM e0 e1 e2 e3 e4 hnb hnb2
  go_upto_region 5 with (go_at_call 7; (with_reducible refine (HPA.out _).mono ?_); rintro e u3 ⟨d0, d1, d2, d3, us, D, kd, rfl, hcg, hrc, hb⟩; have HX3 := Lib.hid ((HX2.out.on hb).alloc1 (.cells #[.int .i64 d0, .int .i64 d1, .int .i64 d2, .int .i64 d3, .slice D us.length kd] 24)); have HB1 := Lib.hid (Bk.new u3 24 #[.int .i64 d0, .int .i64 d1, .int .i64 d2, .int .i64 d3, .slice D us.length kd]); have HR1 := Lib.hid (hrc.on ((Below.refl _ _).alloc (Nat.le_refl _) (.cells #[.int .i64 d0, .int .i64 d1, .int .i64 d2, .int .i64 d3, .slice D us.length kd] 24))); have HC1 := Lib.hid hcg; clear hb hcg hrc)
  obtain ⟨v3, hv3⟩ : ∃ v, u3.alloc (.cells #[.int .i64 d0, .int .i64 d1, .int .i64 d2, .int .i64 d3, .slice D us.length kd] 24) = v := ⟨_, rfl⟩
  obtain ⟨g1, hg1⟩ : ∃ g, u3.heap.size = g := ⟨_, rfl⟩
  rw [hv3] at HX3 HB1 HR1 ⊢
  rw [hg1] at HB1 ⊢
  clear hv3 hg1
  go_upto_region 6 with (go_at_call 8; (with_reducible refine (HPB.out _).mono ?_); rintro e u4 ⟨f0, f1, f2, f3, vs, F, kf, rfl, hcg, hrc, hb⟩; have hbb := hb.alloc hb.size (.cells #[.int .i64 f0, .int .i64 f1, .int .i64 f2, .int .i64 f3, .slice F vs.length kf] 24); have HX4 := Lib.hid (HX3.out.on hbb); have HB14 := Lib.hid (HB1.out.below hbb HB1.out.lt); have HR14 := Lib.hid (HR1.out.on hbb); have HB2 := Lib.hid (Bk.new u4 24 #[.int .i64 f0, .int .i64 f1, .int .i64 f2, .int .i64 f3, .slice F vs.length kf]); have HR2 := Lib.hid (hrc.on ((Below.refl _ _).alloc (Nat.le_refl _) (.cells #[.int .i64 f0, .int .i64 f1, .int .i64 f2, .int .i64 f3, .slice F vs.length kf] 24))); have HC2 := Lib.hid hcg; clear hb hbb hcg hrc)
  obtain ⟨v4, hv4⟩ : ∃ v, u4.alloc (.cells #[.int .i64 f0, .int .i64 f1, .int .i64 f2, .int .i64 f3, .slice F vs.length kf] 24) = v := ⟨_, rfl⟩
  obtain ⟨g2, hg2⟩ : ∃ g, u4.heap.size = g := ⟨_, rfl⟩
  rw [hv4] at HX4 HB14 HR14 HB2 HR2 ⊢
  rw [hg2] at HB2 ⊢
  clear hv4 hg2
  have e0 : v4.cell? ⟨g0, 0, none⟩ = some (.int .i64 a0) := HX4.out.b.cell 0
  have e1 : v4.cell? ⟨g0, 1, none⟩ = some (.int .i64 a1) := HX4.out.b.cell 1
  have e2 : v4.cell? ⟨g0, 2, none⟩ = some (.int .i64 a2) := HX4.out.b.cell 2
  have e3 : v4.cell? ⟨g0, 3, none⟩ = some (.int .i64 a3) := HX4.out.b.cell 3
  have e4 : v4.cell? ⟨g0, 4, none⟩ = some (.slice A n c) := HX4.out.b.cell 4
  go_upto_region 7 with (go_at_call 9; (with_reducible refine (HFC.out _ HX4.out.l HSG.out).mono ?_); rintro e u5 ⟨⟨⟨yn, ya, yb, nl, kl⟩, An1, cn1, Ak1, ck1⟩, rfl, hyt, ⟨hrt, _, _⟩, hb⟩; have hbb := hb.alloc hb.size (.cells #[.string yn, .int .i64 ya, .int .i64 yb, .slice An1 nl.length cn1, .slice Ak1 kl.length ck1] 33); have HX5 := Lib.hid (HX4.out.on hbb); have HB15 := Lib.hid (HB14.out.below hbb HB14.out.lt); have HR15 := Lib.hid (HR14.out.on hbb); have HB25 := Lib.hid (HB2.out.below hbb HB2.out.lt); have HR25 := Lib.hid (HR2.out.on hbb); have HB3 := Lib.hid (Bk.new u5 33 #[.string yn, .int .i64 ya, .int .i64 yb, .slice An1 nl.length cn1, .slice Ak1 kl.length ck1]); have HT3 := Lib.hid (hrt.on ((Below.refl _ _).alloc (Nat.le_refl _) (.cells #[.string yn, .int .i64 ya, .int .i64 yb, .slice An1 nl.length cn1, .slice Ak1 kl.length ck1] 33))); have HYT := Lib.hid hyt; clear hb hbb hyt hrt e0 e1 e2 e3 e4)
  obtain ⟨v5, hv5⟩ : ∃ v, u5.alloc (.cells #[.string yn, .int .i64 ya, .int .i64 yb, .slice An1 nl.length cn1, .slice Ak1 kl.length ck1] 33) = v := ⟨_, rfl⟩
  obtain ⟨g3, hg3⟩ : ∃ g, u5.heap.size = g := ⟨_, rfl⟩
  try simp only [tcs]
  rw [hv5] at HX5 HB15 HR15 HB25 HR25 HB3 HT3 ⊢
  rw [hg3] at HB3 ⊢
  clear hv5 hg3
  have e0 : v5.cell? ⟨g0, 0, none⟩ = some (.int .i64 a0) := HX5.out.b.cell 0
  have e1 : v5.cell? ⟨g0, 1, none⟩ = some (.int .i64 a1) := HX5.out.b.cell 1
  have e2 : v5.cell? ⟨g0, 2, none⟩ = some (.int .i64 a2) := HX5.out.b.cell 2
  have e3 : v5.cell? ⟨g0, 3, none⟩ = some (.int .i64 a3) := HX5.out.b.cell 3
  have e4 : v5.cell? ⟨g0, 4, none⟩ = some (.slice A n c) := HX5.out.b.cell 4
  go_upto_region 8 with (go_at_call 10; (with_reducible refine (HFD.out _ HX5.out.l).mono ?_); rintro e u6 ⟨rfl, hb⟩; have hbb := hb.alloc hb.size (.cells #[.string zn, .int .i64 za, .int .i64 zb, .slice An2 znl.length cn2, .slice Ak2 zkl.length ck2] 33); have HX6 := Lib.hid (HX5.out.on hbb); have HB16 := Lib.hid (HB15.out.below hbb HB15.out.lt); have HR16 := Lib.hid (HR15.out.on hbb); have HB26 := Lib.hid (HB25.out.below hbb HB25.out.lt); have HR26 := Lib.hid (HR25.out.on hbb); have HB36 := Lib.hid (HB3.out.below hbb HB3.out.lt); have HT36 := Lib.hid (HT3.out.on hbb); have HB4 := Lib.hid (Bk.new u6 33 #[.string zn, .int .i64 za, .int .i64 zb, .slice An2 znl.length cn2, .slice Ak2 zkl.length ck2]); have HT4 := Lib.hid (HZR.out _ HX6.out.l); clear hb hbb e0 e1 e2 e3 e4)
  obtain ⟨v6, hv6⟩ : ∃ v, u6.alloc (.cells #[.string zn, .int .i64 za, .int .i64 zb, .slice An2 znl.length cn2, .slice Ak2 zkl.length ck2] 33) = v := ⟨_, rfl⟩
  obtain ⟨g4, hg4⟩ : ∃ g, u6.heap.size = g := ⟨_, rfl⟩
  rw [hv6] at HX6 HB16 HR16 HB26 HR26 HB36 HT36 HB4 HT4 ⊢
  rw [hg4] at HB4 ⊢
  clear hv6 hg4
  have HTL := Lib.hid (show Tel w g0 g1 g2 g3 g4 (⟨a0, a1, a2, a3, ts, A, c⟩ : Cv) (⟨d0, d1, d2, d3, us, D, kd⟩ : Cv) (⟨f0, f1, f2, f3, vs, F, kf⟩ : Cv) (⟨⟨yn, ya, yb, nl, kl⟩, An1, cn1, Ak1, ck1⟩ : Tv) (⟨⟨zn, za, zb, znl, zkl⟩, An2, cn2, Ak2, ck2⟩ : Tv) v6 from ⟨by simp only [ccs, HN.out]; exact HX6.out, HB16.out, HB26.out, HB36.out, HB4.out, HR16.out, HR26.out, HT36.out, HT4.out⟩)
  have HSC := Lib.hid (fun u (hu : Tel w g0 g1 g2 g3 g4 (⟨a0, a1, a2, a3, ts, A, c⟩ : Cv) (⟨d0, d1, d2, d3, us, D, kd⟩ : Cv) (⟨f0, f1, f2, f3, vs, F, kf⟩ : Cv) (⟨⟨yn, ya, yb, nl, kl⟩, An1, cn1, Ak1, ck1⟩ : Tv) (⟨⟨zn, za, zb, znl, zkl⟩, An2, cn2, Ak2, ck2⟩ : Tv) u) => same_c (⟨d0, d1, d2, d3, us, D, kd⟩ : Cv) (⟨f0, f1, f2, f3, vs, F, kf⟩ : Cv) u hu.r1 hu.r2 (HC1.out.trans HC2.out.symm))
  have HST := Lib.hid (fun u (hu : Tel w g0 g1 g2 g3 g4 (⟨a0, a1, a2, a3, ts, A, c⟩ : Cv) (⟨d0, d1, d2, d3, us, D, kd⟩ : Cv) (⟨f0, f1, f2, f3, vs, F, kf⟩ : Cv) (⟨⟨yn, ya, yb, nl, kl⟩, An1, cn1, Ak1, ck1⟩ : Tv) (⟨⟨zn, za, zb, znl, zkl⟩, An2, cn2, Ak2, ck2⟩ : Tv) u) => same_t (⟨⟨yn, ya, yb, nl, kl⟩, An1, cn1, Ak1, ck1⟩ : Tv) (⟨⟨zn, za, zb, znl, zkl⟩, An2, cn2, Ak2, ck2⟩ : Tv) u hu.t3 hu.t4 HYT.out)
  simp only [ccs] at HSC
  simp only [tcs] at HST
  clear HX1 HX2 HX3 HX4 HX5 HX6 HB1 HB14 HB15 HB16 HB2 HB25 HB26 HB3 HB36 HB4 HR1 HR14 HR15 HR16 HR2 HR25 HR26 HT3 HT36 HT4 HFC HFD HPA HPB HZR HGR HC1 HC2 HYT
  go_wp2
  go_loopw [18] (fun v18 wr => ∃ (i : Nat), i ≤ n ∧ v18 = .int .i64 (i : Int) ∧ Hid (Tel w g0 g1 g2 g3 g4 (⟨a0, a1, a2, a3, ts, A, c⟩ : Cv) (⟨d0, d1, d2, d3, us, D, kd⟩ : Cv) (⟨f0, f1, f2, f3, vs, F, kf⟩ : Cv) (⟨⟨yn, ya, yb, nl, kl⟩, An1, cn1, Ak1, ck1⟩ : Tv) (⟨⟨zn, za, zb, znl, zkl⟩, An2, cn2, Ak2, ck2⟩ : Tv) wr)) (fun v18 _ => n - (intOf v18).toNat)
  case atStart => exact ⟨0, by omega, rfl, HTL⟩
  case round =>
    obtain ⟨i, hi, rfl, HT⟩ := hrel
    have e4 : wr.cell? ⟨g0, 4, none⟩ = some (.slice A n c) := by rw [← HN.out]; exact HT.out.c.b.cell 4
    by_cases hi1 : i < n
    · have hi2 : (i : Int) < (n : Int) := by omega
      obtain ⟨b, o, y1, rfl, hy, h1, hcl⟩ := HRC.out.r.at5 i (by rw [HN.out]; exact hi1)
      have hfm := h1.fk.max
      have hfc := h1.fk.cap
      have hkl : y1.t.toks.length ≤ 9223372036854775807 := by omega
      have HTO := Lib.hid (fun u (hu : Below w.heap.size w u) => token_ok y1 nm u (h1.on hu))
      have HTP := Lib.hid (fun u (hu : Below w.heap.size w u) => rtoken_ok (.string y1.t.name) (.int .i64 y1.t.names) (.int .i64 y1.t.visitors) (.slice y1.An y1.t.nets.length y1.cn) y1.Ak y1.t.toks y1.t.toks.length y1.ck nm u (h1.on hu).k rfl hkl)
      obtain ⟨KF, hKF⟩ : ∃ F, (fK nm y1.t.toks).isSome = F := ⟨_, rfl⟩
      obtain ⟨⟨kna, ksa, kta⟩, hKZ⟩ : ∃ Z, (fK nm y1.t.toks).getD zeroTk = Z := ⟨_, rfl⟩
      simp only [hKF, hKZ, kcs] at HTO HTP
      have hkf : (KF != KF) = false := by cases KF <;> rfl
      have HCL := Lib.hid hcl
      obtain ⟨⟨xn, xa, xb, xl, xk⟩, An, cn, Ak, ck⟩ := y1
      simp only [tcs] at HTO
      dsimp only at HTP hkl
      clear hcl hy h1 hKF hKZ hfm hfc
      obtain ⟨t0, t1, t2, t3, t4⟩ := HCL.out wr HT.out.c.l
      try dsimp only at t0 t1 t2 t3 t4
      go_upto_region 12 with (go_at_call 11; (with_reducible refine (HTO.out _ HT.out.c.l).mono ?_); rintro e u7 ⟨rfl, hb⟩; have hbb := hb.alloc hb.size (.cells #[.string kna, .string ksa, .int .i64 kta] 37); have HT7 := Lib.hid (HT.out.on hbb); have HK7 := Lib.hid (Bk.new u7 37 #[.string kna, .string ksa, .int .i64 kta]); clear hb hbb e4 t0 t1 t2 t3 t4)
      obtain ⟨v7, hv7⟩ : ∃ v, u7.alloc (.cells #[.string kna, .string ksa, .int .i64 kta] 37) = v := ⟨_, rfl⟩
      obtain ⟨g5, hg5⟩ : ∃ g, u7.heap.size = g := ⟨_, rfl⟩
      rw [hv7] at HT7 HK7 ⊢
      rw [hg5] at HK7 ⊢
      clear hv7 hg5
      have e4 : v7.cell? ⟨g0, 4, none⟩ = some (.slice (some ⟨b, o, none⟩) n c) := by rw [← HN.out]; exact HT7.out.c.b.cell 4
      obtain ⟨t0, t1, t2, t3, t4⟩ := HCL.out v7 HT7.out.c.l
      try dsimp only at t0 t1 t2 t3 t4
      go_upto_region 13 with (go_at_call 12; (with_reducible refine (HTP.out _ HT7.out.c.l).mono ?_); rintro e u8 ⟨rfl, hb⟩; have hbb := hb.alloc hb.size (.cells #[.string kna, .string ksa, .int .i64 kta] 37); have HT8 := Lib.hid (HT7.out.on hbb); have HK78 := Lib.hid (HK7.out.below hbb HK7.out.lt); have HK8 := Lib.hid (Bk.new u8 37 #[.string kna, .string ksa, .int .i64 kta]); clear hb hbb e4 t0 t1 t2 t3 t4)
      obtain ⟨v8, hv8⟩ : ∃ v, u8.alloc (.cells #[.string kna, .string ksa, .int .i64 kta] 37) = v := ⟨_, rfl⟩
      obtain ⟨g6, hg6⟩ : ∃ g, u8.heap.size = g := ⟨_, rfl⟩
      rw [hv8] at HT8 HK78 HK8 ⊢
      rw [hg6] at HK8 ⊢
      clear hv8 hg6
      have q0 : v8.cell? ⟨g5, 0, none⟩ = some (.string kna) := HK78.out.cell 0
      have q1 : v8.cell? ⟨g5, 1, none⟩ = some (.string ksa) := HK78.out.cell 1
      have q2 : v8.cell? ⟨g5, 2, none⟩ = some (.int .i64 kta) := HK78.out.cell 2
      have r0 : v8.cell? ⟨g6, 0, none⟩ = some (.string kna) := HK8.out.cell 0
      have r1 : v8.cell? ⟨g6, 1, none⟩ = some (.string ksa) := HK8.out.cell 1
      have r2 : v8.cell? ⟨g6, 2, none⟩ = some (.int .i64 kta) := HK8.out.cell 2
      go_wp2
      go_roundw
      case rel => exact ⟨i + 1, by omega, by go_num, HT8⟩
      case measure => simp [intOf]; omega
    · have hi2 : ¬ (i : Int) < (n : Int) := by omega
      go_upto_region 15 with fail
      try simp only [List.cons_append, List.nil_append]
      refine wp_region_held_drew (S := fun u => Tel w g0 g1 g2 g3 g4 (⟨a0, a1, a2, a3, ts, A, c⟩ : Cv) (⟨d0, d1, d2, d3, us, D, kd⟩ : Cv) (⟨f0, f1, f2, f3, vs, F, kf⟩ : Cv) (⟨⟨yn, ya, yb, nl, kl⟩, An1, cn1, Ak1, ck1⟩ : Tv) (⟨⟨zn, za, zb, znl, zkl⟩, An2, cn2, Ak2, ck2⟩ : Tv) u) (by kernel_rfl) (HT.out.on (Below.refl _ _).drew) (fun hHeld => ?_)
      clear hHeld
      refine gen_hT (fun u => Tel w g0 g1 g2 g3 g4 (⟨a0, a1, a2, a3, ts, A, c⟩ : Cv) (⟨d0, d1, d2, d3, us, D, kd⟩ : Cv) (⟨f0, f1, f2, f3, vs, F, kf⟩ : Cv) (⟨⟨yn, ya, yb, nl, kl⟩, An1, cn1, Ak1, ck1⟩ : Tv) (⟨⟨zn, za, zb, znl, zkl⟩, An2, cn2, Ak2, ck2⟩ : Tv) u) (HT.out.on (Below.refl _ _).drew) (fun V0 T0 => ?_)
      have hHeld := T0
      clear e4
      refine tk (some 96) 0 (v := ?_) rfl rfl ?_ hHeld ?_
      rotate_left
      · intro wz hSw; go_simp; try (with_reducible rfl)
      try simp only [lay]
      refine tk (some 97) 1 (v := ?_) rfl rfl ?_ hHeld ?_
      rotate_left
      · intro wz hSw; go_simp; try (with_reducible rfl)
      try simp only [lay]
      refine tk (some 98) 2 (v := ?_) rfl rfl ?_ hHeld ?_
      rotate_left
      · intro wz hSw; have m0 : wz.cell? ⟨g0, 0, none⟩ = some (.int .i64 a0) := hSw.c.b.cell 0; have m1 : wz.cell? ⟨g0, 1, none⟩ = some (.int .i64 a1) := hSw.c.b.cell 1; have m2 : wz.cell? ⟨g0, 2, none⟩ = some (.int .i64 a2) := hSw.c.b.cell 2; have m3 : wz.cell? ⟨g0, 3, none⟩ = some (.int .i64 a3) := hSw.c.b.cell 3; have m4 : wz.cell? ⟨g0, 4, none⟩ = some (.slice A n c) := (by rw [← HN.out]; exact hSw.c.b.cell 4); go_simp; try (with_reducible rfl)
      try simp only [lay]
      refine tk (some 100) 4 (v := ?_) rfl rfl ?_ hHeld ?_
      rotate_left
      · intro wz hSw; have m0 : wz.cell? ⟨g0, 0, none⟩ = some (.int .i64 a0) := hSw.c.b.cell 0; have m1 : wz.cell? ⟨g0, 1, none⟩ = some (.int .i64 a1) := hSw.c.b.cell 1; have m2 : wz.cell? ⟨g0, 2, none⟩ = some (.int .i64 a2) := hSw.c.b.cell 2; have m3 : wz.cell? ⟨g0, 3, none⟩ = some (.int .i64 a3) := hSw.c.b.cell 3; have m4 : wz.cell? ⟨g0, 4, none⟩ = some (.slice A n c) := (by rw [← HN.out]; exact hSw.c.b.cell 4); go_simp; try (with_reducible rfl)
      try simp only [lay]
      refine wpAnyH_ready (rs := [3]) (by kernel_rfl) (by simp) (AllReadyH.cons rfl (fun K hK => ?_) AllReadyH.nil)
      rw [if_pos (by kernel_rfl)]
      go_simp
      (with_reducible refine (HRI.out _ T0.c.l).mono ?_)
      rintro e V1 ⟨rfl, hb⟩
      try dsimp only
      have T1 := T0.on hb
      clear hb
      refine hK.out _ _ T1 (fun hHeld => ?_)
      try simp only [lay]
      refine wpAnyH_ready (rs := [5]) (by kernel_rfl) (by simp) (AllReadyH.cons rfl (fun K hK => ?_) AllReadyH.nil)
      rw [if_pos (by kernel_rfl)]
      go_simp
      (with_reducible refine (HRJ.out _ T1.c.l).mono ?_)
      rintro e V2 ⟨rfl, hb⟩
      try dsimp only
      have T2 := T1.on hb
      clear hb
      refine hK.out _ _ T2 (fun hHeld => ?_)
      try simp only [lay]
      refine tk (some 102) 6 (v := ?_) rfl rfl ?_ hHeld ?_
      rotate_left
      · intro wz hSw; go_simp; try (with_reducible rfl)
      try simp only [lay]
      refine tk (some 103) 7 (v := ?_) rfl rfl ?_ hHeld ?_
      rotate_left
      · intro wz hSw; go_simp; try (with_reducible rfl)
      try simp only [lay]
      refine tk (some 104) 8 (v := ?_) rfl rfl ?_ hHeld ?_
      rotate_left
      · intro wz hSw; go_simp; try (with_reducible rfl)
      try simp only [lay]
      refine tk (some 105) 9 (v := ?_) rfl rfl ?_ hHeld ?_
      rotate_left
      · intro wz hSw; have m0 : wz.cell? ⟨g0, 0, none⟩ = some (.int .i64 a0) := hSw.c.b.cell 0; have m1 : wz.cell? ⟨g0, 1, none⟩ = some (.int .i64 a1) := hSw.c.b.cell 1; have m2 : wz.cell? ⟨g0, 2, none⟩ = some (.int .i64 a2) := hSw.c.b.cell 2; have m3 : wz.cell? ⟨g0, 3, none⟩ = some (.int .i64 a3) := hSw.c.b.cell 3; have m4 : wz.cell? ⟨g0, 4, none⟩ = some (.slice A n c) := (by rw [← HN.out]; exact hSw.c.b.cell 4); go_simp; try (with_reducible rfl)
      try simp only [lay]
      refine tk (some 107) 11 (v := ?_) rfl rfl ?_ hHeld ?_
      rotate_left
      · intro wz hSw; have m0 : wz.cell? ⟨g0, 0, none⟩ = some (.int .i64 a0) := hSw.c.b.cell 0; have m1 : wz.cell? ⟨g0, 1, none⟩ = some (.int .i64 a1) := hSw.c.b.cell 1; have m2 : wz.cell? ⟨g0, 2, none⟩ = some (.int .i64 a2) := hSw.c.b.cell 2; have m3 : wz.cell? ⟨g0, 3, none⟩ = some (.int .i64 a3) := hSw.c.b.cell 3; have m4 : wz.cell? ⟨g0, 4, none⟩ = some (.slice A n c) := (by rw [← HN.out]; exact hSw.c.b.cell 4); go_simp; try (with_reducible rfl)
      try simp only [lay]
      refine wpAnyH_ready (rs := [10]) (by kernel_rfl) (by simp) (AllReadyH.cons rfl (fun K hK => ?_) AllReadyH.nil)
      rw [if_pos (by kernel_rfl)]
      go_simp
      (with_reducible refine (HPR.out _ T2.c.l).mono ?_)
      rintro e V3 ⟨rfl, hb⟩
      try dsimp only
      have T3 := T2.on hb
      clear hb
      refine hK.out _ _ T3 (fun hHeld => ?_)
      try simp only [lay]
      refine wpAnyH_ready (rs := [12]) (by kernel_rfl) (by simp) (AllReadyH.cons rfl (fun K hK => ?_) AllReadyH.nil)
      rw [if_pos (by kernel_rfl)]
      go_simp
      (with_reducible refine (HPQ.out _ T3.c.l).mono ?_)
      rintro e V4 ⟨rfl, hb⟩
      try dsimp only
      have T4 := T3.on hb
      clear hb
      refine hK.out _ _ T4 (fun hHeld => ?_)
      try simp only [lay]
      refine tk (some 109) 13 (v := ?_) rfl rfl ?_ hHeld ?_
      rotate_left
      · intro wz hSw; go_simp; try (with_reducible rfl)
      try simp only [lay]
      refine tk (some 110) 14 (v := ?_) rfl rfl ?_ hHeld ?_
      rotate_left
      · intro wz hSw; go_simp; try (with_reducible rfl)
      try simp only [lay]
      refine tk (some 111) 15 (v := ?_) rfl rfl ?_ hHeld ?_
      rotate_left
      · intro wz hSw; go_simp; try (with_reducible rfl)
      try simp only [lay]
      refine tk (some 112) 16 (v := ?_) rfl rfl ?_ hHeld ?_
      rotate_left
      · intro wz hSw; have m0 : wz.cell? ⟨g1, 0, none⟩ = some (.int .i64 d0) := hSw.b1.cell 0; have m1 : wz.cell? ⟨g1, 1, none⟩ = some (.int .i64 d1) := hSw.b1.cell 1; have m2 : wz.cell? ⟨g1, 2, none⟩ = some (.int .i64 d2) := hSw.b1.cell 2; have m3 : wz.cell? ⟨g1, 3, none⟩ = some (.int .i64 d3) := hSw.b1.cell 3; have m4 : wz.cell? ⟨g1, 4, none⟩ = some (.slice D us.length kd) := hSw.b1.cell 4; go_simp; try (with_reducible rfl)
      try simp only [lay]
      refine tk (some 113) 17 (v := ?_) rfl rfl ?_ hHeld ?_
      rotate_left
      · intro wz hSw; have m0 : wz.cell? ⟨g2, 0, none⟩ = some (.int .i64 f0) := hSw.b2.cell 0; have m1 : wz.cell? ⟨g2, 1, none⟩ = some (.int .i64 f1) := hSw.b2.cell 1; have m2 : wz.cell? ⟨g2, 2, none⟩ = some (.int .i64 f2) := hSw.b2.cell 2; have m3 : wz.cell? ⟨g2, 3, none⟩ = some (.int .i64 f3) := hSw.b2.cell 3; have m4 : wz.cell? ⟨g2, 4, none⟩ = some (.slice F vs.length kf) := hSw.b2.cell 4; go_simp; try (with_reducible rfl)
      try simp only [lay]
      refine wpAnyH_ready (rs := [18]) (by kernel_rfl) (by simp) (AllReadyH.cons rfl (fun K hK => ?_) AllReadyH.nil)
      rw [if_pos (by kernel_rfl)]
      go_simp
      (with_reducible refine (HSC.out _ T4).mono ?_)
      rintro e V5 ⟨rfl, hb⟩
      try dsimp only
      have T5 := T4.on hb
      clear hb
      refine hK.out _ _ T5 (fun hHeld => ?_)
      try simp only [lay]
      refine tk (some 115) 19 (v := ?_) rfl rfl ?_ hHeld ?_
      rotate_left
      · intro wz hSw; go_simp; try (with_reducible rfl)
      try simp only [lay]
      refine tk (some 116) 20 (v := ?_) rfl rfl ?_ hHeld ?_
      rotate_left
      · intro wz hSw; go_simp; try (with_reducible rfl)
      try simp only [lay]
      refine tk (some 117) 21 (v := ?_) rfl rfl ?_ hHeld ?_
      rotate_left
      · intro wz hSw; go_simp; try (with_reducible rfl)
      try simp only [lay]
      refine tk (some 118) 22 (v := ?_) rfl rfl ?_ hHeld ?_
      rotate_left
      · intro wz hSw; go_simp; try (with_reducible rfl)
      try simp only [lay]
      refine tk (some 119) 23 (v := ?_) rfl rfl ?_ hHeld ?_
      rotate_left
      · intro wz hSw; go_simp; try (with_reducible rfl)
      try simp only [lay]
      refine tk (some 120) 24 (v := ?_) rfl rfl ?_ hHeld ?_
      rotate_left
      · intro wz hSw; go_simp; try (with_reducible rfl)
      try simp only [lay]
      refine tk (some 121) 25 (v := ?_) rfl rfl ?_ hHeld ?_
      rotate_left
      · intro wz hSw; go_simp; try (with_reducible rfl)
      try simp only [lay]
      refine tk (some 122) 26 (v := ?_) rfl rfl ?_ hHeld ?_
      rotate_left
      · intro wz hSw; go_simp; try (with_reducible rfl)
      try simp only [lay]
      refine tk (some 123) 27 (v := ?_) rfl rfl ?_ hHeld ?_
      rotate_left
      · intro wz hSw; go_simp; try (with_reducible rfl)
      try simp only [lay]
      refine tk (some 124) 28 (v := ?_) rfl rfl ?_ hHeld ?_
      rotate_left
      · intro wz hSw; go_simp; try (with_reducible rfl)
      try simp only [lay]
      refine tk (some 125) 29 (v := ?_) rfl rfl ?_ hHeld ?_
      rotate_left
      · intro wz hSw; go_simp; try (with_reducible rfl)
      try simp only [lay]
      refine tk (some 126) 30 (v := ?_) rfl rfl ?_ hHeld ?_
      rotate_left
      · intro wz hSw; go_simp; try (with_reducible rfl)
      try simp only [lay]
      refine tk (some 127) 31 (v := ?_) rfl rfl ?_ hHeld ?_
      rotate_left
      · intro wz hSw; have m0 : wz.cell? ⟨g3, 0, none⟩ = some (.string yn) := hSw.b3.cell 0; have m1 : wz.cell? ⟨g3, 1, none⟩ = some (.int .i64 ya) := hSw.b3.cell 1; have m2 : wz.cell? ⟨g3, 2, none⟩ = some (.int .i64 yb) := hSw.b3.cell 2; have m3 : wz.cell? ⟨g3, 3, none⟩ = some (.slice An1 nl.length cn1) := hSw.b3.cell 3; have m4 : wz.cell? ⟨g3, 4, none⟩ = some (.slice Ak1 kl.length ck1) := hSw.b3.cell 4; go_simp; try (with_reducible rfl)
      try simp only [lay]
      refine tk (some 128) 32 (v := ?_) rfl rfl ?_ hHeld ?_
      rotate_left
      · intro wz hSw; have m0 : wz.cell? ⟨g4, 0, none⟩ = some (.string zn) := hSw.b4.cell 0; have m1 : wz.cell? ⟨g4, 1, none⟩ = some (.int .i64 za) := hSw.b4.cell 1; have m2 : wz.cell? ⟨g4, 2, none⟩ = some (.int .i64 zb) := hSw.b4.cell 2; have m3 : wz.cell? ⟨g4, 3, none⟩ = some (.slice An2 znl.length cn2) := hSw.b4.cell 3; have m4 : wz.cell? ⟨g4, 4, none⟩ = some (.slice Ak2 zkl.length ck2) := hSw.b4.cell 4; go_simp; try (with_reducible rfl)
      try simp only [lay]
      refine wpAnyH_ready (rs := [33]) (by kernel_rfl) (by simp) (AllReadyH.cons rfl (fun K hK => ?_) AllReadyH.nil)
      rw [if_pos (by kernel_rfl)]
      go_simp
      (with_reducible refine (HST.out _ T5).mono ?_)
      rintro e V6 ⟨rfl, hb⟩
      try dsimp only
      have T6 := T5.on hb
      clear hb
      refine hK.out _ _ T6 (fun hHeld => ?_)
      try simp only [lay]
      refine tk (some 130) 34 (v := ?_) rfl rfl ?_ hHeld ?_
      rotate_left
      · intro wz hSw; go_simp; try (with_reducible rfl)
      try simp only [lay]
      refine tk (some 131) 35 (v := ?_) rfl rfl ?_ hHeld ?_
      rotate_left
      · intro wz hSw; go_simp; try (with_reducible rfl)
      try simp only [lay]
      refine tk (some 132) 36 (v := ?_) rfl rfl ?_ hHeld ?_
      rotate_left
      · intro wz hSw; go_simp; try (with_reducible rfl)
      try simp only [lay]
      refine tk (some 133) 37 (v := ?_) rfl rfl ?_ hHeld ?_
      rotate_left
      · intro wz hSw; go_simp; try (with_reducible rfl)
      try simp only [lay]
      refine tk (some 134) 38 (v := ?_) rfl rfl ?_ hHeld ?_
      rotate_left
      · intro wz hSw; go_simp; try (with_reducible rfl)
      try simp only [lay]
      refine tk (some 135) 39 (v := ?_) rfl rfl ?_ hHeld ?_
      rotate_left
      · intro wz hSw; go_simp; try (with_reducible rfl)
      try simp only [lay]
      refine tk (some 6) 40 (v := ?_) rfl rfl ?_ hHeld ?_
      rotate_left
      · intro wz hSw; go_simp; try (with_reducible rfl)
      try simp only [lay]
      refine wpAnyH_done (by kernel_rfl) ?_ _
      clear hHeld
      go_wp2
      go_ret
      exact ⟨rfl, T6.c.l⟩
end Go.Proofs.YtekobdmlgbffnaaGreatDoor
