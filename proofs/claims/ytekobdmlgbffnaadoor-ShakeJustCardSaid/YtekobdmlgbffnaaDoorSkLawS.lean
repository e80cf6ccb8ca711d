/- ShakeSays: the walk. (Written by gen_sksays.py.) -/
import Derived.Test.YtekobdmlgbffnaaDoorSkLawB
import Derived.Test.YtekobdmlgbffnaaDoorG9
import Derived.BigRegion
import Derived.Deep.Cut
import Derived.Deep.CutRange
import Derived.Deep.RegionHeld3
namespace Go.Proofs.YtekobdmlgbffnaaDoor
set_option linter.unusedVariables false
set_option maxRecDepth 100000
set_option linter.unusedSimpArgs false
open Go.RowKit

theorem yields_eqm_t {ops : Array Oper} {S : World → Prop} {oi : Oper} {a : Act} (hw : Region.wanted oi (yielded ops a.tmps) = true) (p q : Operand) (d : TypeId) (ho : oi.op = .binOp .eql 34 p q d) (x : Mg) (hx : a.eval p = .agg x.cells) (hy : a.eval q = .agg x.cells) : YieldsIf Tryd.prog ops S oi (.bool true) a := by
  have := yieldsIf_eqm (S := S) hw p q d ho x x hx hy
  rwa [eqM_same] at this
/-- A message that is written over. -/
theorem Ss.over5 {ub u : World} {mb gb sb v : Nat} {g : Rev} {s : Sk} {L : List (Nat × TypeId × Array Value)} {x0 x1 x2 x3 x4 : Value} (h : Ss ub mb g sb v s ((gb, 34, #[x0, x1, x2, x3, x4]) :: L) u) (hlo : ub.heap.size ≤ gb) (hL : ∀ b ∈ L, b.1 ≠ gb) (a b c d e : Value) : Ss ub mb g sb v s ((gb, 34, #[a, b, c, d, e]) :: L) (set5 u gb a b c d e) :=
  h.turn (h.head.set5 a b c d e) (((((Ke.refl _ _).set (p := ⟨gb, 0, none⟩) (List.mem_singleton.2 rfl) a).set (p := ⟨gb, 1, none⟩) (List.mem_singleton.2 rfl) b).set (p := ⟨gb, 2, none⟩) (List.mem_singleton.2 rfl) c).set (p := ⟨gb, 3, none⟩) (List.mem_singleton.2 rfl) d |>.set (p := ⟨gb, 4, none⟩) (List.mem_singleton.2 rfl) e) hlo hL

set_option maxRecDepth 100000 in
set_option maxHeartbeats 16000000 in
theorem walk_ShakeSays (x : Cv) (y : Mg) (now : Int) (nn : ByteArray) (w : World) (h : InCf w x) (hya : y.a.size ≤ 140737488355328) (hyb : y.b.size ≤ 140737488355328) (wn : (Lit.int .i64 now).wf = true) (hnn : nn.size ≤ 140737488355328) (hG : Gl w) :
    Calls Tryd.prog 7 #[.agg (ccs x), .agg y.cells, .int .i64 now, .string nn] w fun e w' => e = .returned (.bool true) ∧ Below w.heap.size w w' := by
  have HGR := Lib.hid (fun u (hu : Below w.heap.size w u) => great_ok x u (h.on hu))
  have HN0 := Lib.hid (fun (hc : cfgB x.cg = false) => vnew_no h.rc hc)
  have HN1 := Lib.hid (fun (hc : cfgB x.cg = true) => vnew_yes h.rc hc)
  have HCF := Lib.hid (fun (hc : cfgB x.cg = true) => show ∃ cg : Cg, cfgB cg = true ∧ x.cg.tens = cg.tens from ⟨x.cg, hc, rfl⟩)
  obtain ⟨C, hC⟩ : ∃ C, cfgB x.cg = C := ⟨_, rfl⟩
  simp only [hC] at HN0 HN1 HCF
  obtain ⟨tn, htn⟩ : ∃ tn, x.cg.tens = tn := ⟨_, rfl⟩
  rw [htn] at HN1 HCF
  obtain ⟨a0, a1, a2, a3, ts, A, c⟩ := x
  obtain ⟨n, hn⟩ : ∃ n, ts.length = n := ⟨_, rfl⟩
  simp only [ccs, hn] at HGR HN0 HN1 ⊢
  have HX := Lib.hid (show Bx w w.heap.size 24 #[.int .i64 a0, .int .i64 a1, .int .i64 a2, .int .i64 a3, .slice A n c] (w.alloc (.cells #[.int .i64 a0, .int .i64 a1, .int .i64 a2, .int .i64 a3, .slice A n c] 24)) from Bx.new w _ _)
  have HG := Lib.hid hG
  clear h hn hC htn hG
  obtain ⟨xk, xa, xb, xn, xm⟩ := y
  dsimp only at hya hyb ⊢
  have HWG := Lib.hid (fun u => wgreat_ok ⟨xk, xa, xb, xn, xm⟩ u hya hyb)
  dsimp only at HWG
  obtain ⟨big, hbig⟩ : ∃ big, decide (9000 < xa.size + xb.size) = big := ⟨_, rfl⟩
  simp only [hbig] at HWG
  have HBG := Lib.hid hbig
  have HX0 := HX
  have HXM := Lib.hid (show Bk ((w.alloc (.cells #[.int .i64 a0, .int .i64 a1, .int .i64 a2, .int .i64 a3, .slice A n c] 24)).alloc (.cells #[.int .i64 xk, .string xa, .string xb, .int .i64 xn, .int .i64 xm] 34)) (w.heap.size + 1) 34 #[.int .i64 xk, .string xa, .string xb, .int .i64 xn, .int .i64 xm] by
    have := Bk.new (w.alloc (.cells #[.int .i64 a0, .int .i64 a1, .int .i64 a2, .int .i64 a3, .slice A n c] 24)) 34 #[.int .i64 xk, .string xa, .string xb, .int .i64 xn, .int .i64 xm]
    rwa [World.size_alloc] at this)
  replace HX := Lib.hid (HX0.out.alloc (.cells #[.int .i64 xk, .string xa, .string xb, .int .i64 xn, .int .i64 xm] 34))
  clear HX0 hbig hya hyb
  go_enter Tryd.func7, Tryd.ntmps7
  go_upto_region 2 with (go_at_call 8; refine (shead_ok _ (HG.out.below HX.out.l HG.out.size)).mono ?_; rintro e u1 ⟨rfl, hb⟩; have HX1 := Lib.hid (HX.out.on hb); have HXM1 := Lib.hid (HXM.out.below hb HXM.out.lt); clear hb)
  obtain ⟨g0, hg0⟩ : ∃ g, w.heap.size = g := ⟨_, rfl⟩
  have HG0 := Lib.hid hg0
  rw [hg0] at HX1 HXM1 ⊢
  clear hg0
  have e0 : u1.cell? ⟨g0, 0, none⟩ = some (.int .i64 a0) := HX1.out.b.cell 0
  have e1 : u1.cell? ⟨g0, 1, none⟩ = some (.int .i64 a1) := HX1.out.b.cell 1
  have e2 : u1.cell? ⟨g0, 2, none⟩ = some (.int .i64 a2) := HX1.out.b.cell 2
  have e3 : u1.cell? ⟨g0, 3, none⟩ = some (.int .i64 a3) := HX1.out.b.cell 3
  have e4 : u1.cell? ⟨g0, 4, none⟩ = some (.slice A n c) := HX1.out.b.cell 4
  cases C with
  | false =>
    go_wp2_with (go_at_call 9; (with_reducible refine (HN0.out (by first | rfl | trivial) _ HX1.out.l).mono ?_); rintro e u2 ⟨rfl, hb⟩; have HX2 := Lib.hid (HX1.out.on hb); clear hb)
    go_ret
    exact ⟨rfl, HX2.out.l⟩
  | true =>
    go_upto_region 3 with (go_at_call 9; (with_reducible refine (HN1.out (by first | rfl | trivial) _ HX1.out.l [(g0, 24, #[.int .i64 a0, .int .i64 a1, .int .i64 a2, .int .i64 a3, .slice A n c]), (g0 + 1, 34, #[.int .i64 xk, .string xa, .string xb, .int .i64 xn, .int .i64 xm])] (fun b hb => (List.mem_cons.1 hb).elim (fun e => e ▸ HX1.out.b) (fun hb => (List.mem_singleton.1 hb) ▸ HXM1.out))).mono ?_); rintro e u2 ⟨v, mb, rfl, hv, _, _, hbb⟩; have HV2 := Lib.hid hv; have HBB2 := Lib.hid hbb; clear hv hbb)
    clear e0 e1 e2 e3 e4
    have HSB := Lib.hid (show Sb w u2 v mb tn from ⟨HV2.out.less (fun b hb => absurd hb List.not_mem_nil), HCF.out (by first | rfl | trivial)⟩)
    have HMV := Lib.hid (show Mv u2 mb [] from HV2.out.va.mp)
    have e0 : u2.cell? ⟨g0, 0, none⟩ = some (.int .i64 a0) := HV2.out.head.cell 0
    have e1 : u2.cell? ⟨g0, 1, none⟩ = some (.int .i64 a1) := HV2.out.head.cell 1
    have e2 : u2.cell? ⟨g0, 2, none⟩ = some (.int .i64 a2) := HV2.out.head.cell 2
    have e3 : u2.cell? ⟨g0, 3, none⟩ = some (.int .i64 a3) := HV2.out.head.cell 3
    have e4 : u2.cell? ⟨g0, 4, none⟩ = some (.slice A n c) := HV2.out.head.cell 4
    have m0 : u2.cell? ⟨g0 + 1, 0, none⟩ = some (.int .i64 xk) := (HV2.out.bk (b := g0 + 1) (t := 34) (cs := #[.int .i64 xk, .string xa, .string xb, .int .i64 xn, .int .i64 xm]) (by simp)).cell 0
    have m1 : u2.cell? ⟨g0 + 1, 1, none⟩ = some (.string xa) := (HV2.out.bk (b := g0 + 1) (t := 34) (cs := #[.int .i64 xk, .string xa, .string xb, .int .i64 xn, .int .i64 xm]) (by simp)).cell 1
    have m2 : u2.cell? ⟨g0 + 1, 2, none⟩ = some (.string xb) := (HV2.out.bk (b := g0 + 1) (t := 34) (cs := #[.int .i64 xk, .string xa, .string xb, .int .i64 xn, .int .i64 xm]) (by simp)).cell 2
    have m3 : u2.cell? ⟨g0 + 1, 3, none⟩ = some (.int .i64 xn) := (HV2.out.bk (b := g0 + 1) (t := 34) (cs := #[.int .i64 xk, .string xa, .string xb, .int .i64 xn, .int .i64 xm]) (by simp)).cell 3
    have m4 : u2.cell? ⟨g0 + 1, 4, none⟩ = some (.int .i64 xm) := (HV2.out.bk (b := g0 + 1) (t := 34) (cs := #[.int .i64 xk, .string xa, .string xb, .int .i64 xn, .int .i64 xm]) (by simp)).cell 4
    by_cases hn1 : nn.size ≤ 2000
    rotate_left
    · have hn2 : decide ((2000 : Int) < (nn.size : Int)) = true := decide_eq_true (by omega)
      cases big
      all_goals go_wp2_with (first
        | (go_at_call 10; (with_reducible refine (HGR.out _ HV2.out.l).mono ?_); rintro e u3 ⟨gr, rfl, _, hb⟩; have HV3 := Lib.hid (HV2.out.on hb); have HK3 := Lib.hid (show Ke [mb] u2 u3 from (Ke.of hb).nil); have HM3 := Lib.hid (show Mv u3 mb [] from HMV.out.ke (Ke.of hb) (by simp)); clear hb; have m0 : u3.cell? ⟨g0 + 1, 0, none⟩ = some (.int .i64 xk) := (HV3.out.bk (b := g0 + 1) (t := 34) (cs := #[.int .i64 xk, .string xa, .string xb, .int .i64 xn, .int .i64 xm]) (by simp)).cell 0; have m1 : u3.cell? ⟨g0 + 1, 1, none⟩ = some (.string xa) := (HV3.out.bk (b := g0 + 1) (t := 34) (cs := #[.int .i64 xk, .string xa, .string xb, .int .i64 xn, .int .i64 xm]) (by simp)).cell 1; have m2 : u3.cell? ⟨g0 + 1, 2, none⟩ = some (.string xb) := (HV3.out.bk (b := g0 + 1) (t := 34) (cs := #[.int .i64 xk, .string xa, .string xb, .int .i64 xn, .int .i64 xm]) (by simp)).cell 2; have m3 : u3.cell? ⟨g0 + 1, 3, none⟩ = some (.int .i64 xn) := (HV3.out.bk (b := g0 + 1) (t := 34) (cs := #[.int .i64 xk, .string xa, .string xb, .int .i64 xn, .int .i64 xm]) (by simp)).cell 3; have m4 : u3.cell? ⟨g0 + 1, 4, none⟩ = some (.int .i64 xm) := (HV3.out.bk (b := g0 + 1) (t := 34) (cs := #[.int .i64 xk, .string xa, .string xb, .int .i64 xn, .int .i64 xm]) (by simp)).cell 4; cases gr)
        | (go_at_call 19; (with_reducible refine (HWG.out _).mono ?_); rintro e u4 ⟨rfl, hb⟩; have HV4 := Lib.hid (HV3.out.on hb); have HK4 := Lib.hid (show Ke [mb] u2 u4 from HK3.out.trans (Ke.of hb).nil); have HM4 := Lib.hid (show Mv u4 mb [] from HM3.out.ke (Ke.of hb) (by simp)); clear hb))
      all_goals go_ret
      all_goals (first | exact ⟨rfl, HV3.out.l⟩ | exact ⟨rfl, HV4.out.l⟩)
    have hn2 : decide ((2000 : Int) < (nn.size : Int)) = false := decide_eq_false (by omega)
    cases big with
    | true =>
      go_wp2_with (first
        | (go_at_call 10; (with_reducible refine (HGR.out _ HV2.out.l).mono ?_); rintro e u3 ⟨gr, rfl, _, hb⟩; have HV3 := Lib.hid (HV2.out.on hb); have HK3 := Lib.hid (show Ke [mb] u2 u3 from (Ke.of hb).nil); have HM3 := Lib.hid (show Mv u3 mb [] from HMV.out.ke (Ke.of hb) (by simp)); clear hb; have m0 : u3.cell? ⟨g0 + 1, 0, none⟩ = some (.int .i64 xk) := (HV3.out.bk (b := g0 + 1) (t := 34) (cs := #[.int .i64 xk, .string xa, .string xb, .int .i64 xn, .int .i64 xm]) (by simp)).cell 0; have m1 : u3.cell? ⟨g0 + 1, 1, none⟩ = some (.string xa) := (HV3.out.bk (b := g0 + 1) (t := 34) (cs := #[.int .i64 xk, .string xa, .string xb, .int .i64 xn, .int .i64 xm]) (by simp)).cell 1; have m2 : u3.cell? ⟨g0 + 1, 2, none⟩ = some (.string xb) := (HV3.out.bk (b := g0 + 1) (t := 34) (cs := #[.int .i64 xk, .string xa, .string xb, .int .i64 xn, .int .i64 xm]) (by simp)).cell 2; have m3 : u3.cell? ⟨g0 + 1, 3, none⟩ = some (.int .i64 xn) := (HV3.out.bk (b := g0 + 1) (t := 34) (cs := #[.int .i64 xk, .string xa, .string xb, .int .i64 xn, .int .i64 xm]) (by simp)).cell 3; have m4 : u3.cell? ⟨g0 + 1, 4, none⟩ = some (.int .i64 xm) := (HV3.out.bk (b := g0 + 1) (t := 34) (cs := #[.int .i64 xk, .string xa, .string xb, .int .i64 xn, .int .i64 xm]) (by simp)).cell 4; cases gr)
        | (go_at_call 19; (with_reducible refine (HWG.out _).mono ?_); rintro e u4 ⟨rfl, hb⟩; have HV4 := Lib.hid (HV3.out.on hb); have HK4 := Lib.hid (show Ke [mb] u2 u4 from HK3.out.trans (Ke.of hb).nil); have HM4 := Lib.hid (show Mv u4 mb [] from HM3.out.ke (Ke.of hb) (by simp)); clear hb))
      all_goals go_ret
      all_goals (first | exact ⟨rfl, HV3.out.l⟩ | exact ⟨rfl, HV4.out.l⟩)
    | false =>
      have HZ := Lib.hid (show xa.size ≤ 9000 ∧ xb.size ≤ 9000 by have := HBG.out; rw [decide_eq_false_iff_not] at this; omega)
      go_upto_region 5 with (first
        | (go_at_call 10; (with_reducible refine (HGR.out _ HV2.out.l).mono ?_); rintro e u3 ⟨gr, rfl, _, hb⟩; have HV3 := Lib.hid (HV2.out.on hb); have HK3 := Lib.hid (show Ke [mb] u2 u3 from (Ke.of hb).nil); have HM3 := Lib.hid (show Mv u3 mb [] from HMV.out.ke (Ke.of hb) (by simp)); clear hb; have m0 : u3.cell? ⟨g0 + 1, 0, none⟩ = some (.int .i64 xk) := (HV3.out.bk (b := g0 + 1) (t := 34) (cs := #[.int .i64 xk, .string xa, .string xb, .int .i64 xn, .int .i64 xm]) (by simp)).cell 0; have m1 : u3.cell? ⟨g0 + 1, 1, none⟩ = some (.string xa) := (HV3.out.bk (b := g0 + 1) (t := 34) (cs := #[.int .i64 xk, .string xa, .string xb, .int .i64 xn, .int .i64 xm]) (by simp)).cell 1; have m2 : u3.cell? ⟨g0 + 1, 2, none⟩ = some (.string xb) := (HV3.out.bk (b := g0 + 1) (t := 34) (cs := #[.int .i64 xk, .string xa, .string xb, .int .i64 xn, .int .i64 xm]) (by simp)).cell 2; have m3 : u3.cell? ⟨g0 + 1, 3, none⟩ = some (.int .i64 xn) := (HV3.out.bk (b := g0 + 1) (t := 34) (cs := #[.int .i64 xk, .string xa, .string xb, .int .i64 xn, .int .i64 xm]) (by simp)).cell 3; have m4 : u3.cell? ⟨g0 + 1, 4, none⟩ = some (.int .i64 xm) := (HV3.out.bk (b := g0 + 1) (t := 34) (cs := #[.int .i64 xk, .string xa, .string xb, .int .i64 xn, .int .i64 xm]) (by simp)).cell 4; cases gr)
        | (go_at_call 19; (with_reducible refine (HWG.out _).mono ?_); rintro e u4 ⟨rfl, hb⟩; have HV4 := Lib.hid (HV3.out.on hb); have HK4 := Lib.hid (show Ke [mb] u2 u4 from HK3.out.trans (Ke.of hb).nil); have HM4 := Lib.hid (show Mv u4 mb [] from HM3.out.ke (Ke.of hb) (by simp)); clear hb))
      any_goals (go_ret; exact ⟨rfl, HV3.out.l⟩)
      clear e0 e1 e2 e3 e4 m0 m1 m2 m3 m4 hn2
      go_upto_region 6 with (go_at_call 12; (with_reducible refine (ss_new HSB.out [(g0 + 1, 34, #[.int .i64 xk, .string xa, .string xb, .int .i64 xn, .int .i64 xm])] HK4.out HM4.out (fun y hy => by obtain rfl := List.mem_singleton.1 hy; exact HV4.out.bk (b := g0 + 1) (t := 34) (cs := #[.int .i64 xk, .string xa, .string xb, .int .i64 xn, .int .i64 xm]) (by simp))).mono ?_); rintro e u5 ⟨rfl, hs⟩; have HS5 := Lib.hid hs; clear hs)
      obtain ⟨sb, hsb⟩ : ∃ sb, u4.heap.size = sb := ⟨_, rfl⟩
      rw [hsb] at HS5 ⊢
      clear hsb
      have HLO := Lib.hid (show u2.heap.size ≤ u5.heap.size from HS5.out.k.size)
      have m0 : u5.cell? ⟨g0 + 1, 0, none⟩ = some (.int .i64 xk) := HS5.out.head.cell 0
      have m1 : u5.cell? ⟨g0 + 1, 1, none⟩ = some (.string xa) := HS5.out.head.cell 1
      have m2 : u5.cell? ⟨g0 + 1, 2, none⟩ = some (.string xb) := HS5.out.head.cell 2
      have m3 : u5.cell? ⟨g0 + 1, 3, none⟩ = some (.int .i64 xn) := HS5.out.head.cell 3
      have m4 : u5.cell? ⟨g0 + 1, 4, none⟩ = some (.int .i64 xm) := HS5.out.head.cell 4
      by_cases hk : xk = 1
      · subst hk
        have HH := Lib.hid (show ∀ L u, Ss u2 mb [] sb v .new L u → Calls Tryd.prog 13 #[.pointer (some ⟨sb, 0, none⟩), .agg #[.int .i64 1, .string xa, .string xb, .int .i64 xn, .int .i64 xm], .int .i64 now, .string nn] u fun e u' => e = .returned (.tuple #[.agg #[.int .i64 2, .string (cutN nn), .string ⟨#[]⟩, .int .i64 0, .int .i64 0], .bool true]) ∧ Ss u2 mb [] sb v (.ask xa xb (cutN nn)) L u' from fun L u hu => ss_hear HSB.out HG.out hu ⟨1, xa, xb, xn, xm⟩ now nn (show xa.size ≤ 1099511627776 by have := HZ.out; omega) (show xb.size ≤ 140737488355328 by have := HZ.out; omega))
        obtain ⟨m, hm⟩ : ∃ m : Nat, min nn.size 64 = m := ⟨_, rfl⟩
        have HMIN := Lib.hid (show min (nn.size : Int) (64 : Int) = (m : Int) by omega)
        have hsl := fun u => cut_run nn m hm u
        obtain ⟨cn, hcn⟩ : ∃ cn, cutN nn = cn := ⟨_, rfl⟩
        simp only [hcn] at HH hsl
        clear hm hcn
        go_upto_region 9 with (go_at_call 13; (with_reducible refine (HH.out _ _ HS5.out).mono ?_); rintro e u6 ⟨rfl, hs⟩; have HS6 := Lib.hid hs; clear hs HS5 m0 m1 m2 m3 m4)
        have HY6 := Lib.hid (HS6.out.new 34 #[.int .i64 2, .string cn, .string ⟨#[]⟩, .int .i64 0, .int .i64 0])
        obtain ⟨y6, hy⟩ : ∃ y, u6.alloc (.cells #[.int .i64 2, .string cn, .string ⟨#[]⟩, .int .i64 0, .int .i64 0] 34) = y := ⟨_, rfl⟩
        obtain ⟨g6, hg⟩ : ∃ g, u6.heap.size = g := ⟨_, rfl⟩
        have HL6 := Lib.hid (show u2.heap.size ≤ g6 from by rw [← hg]; exact HS6.out.k.size)
        have HQ6 := Lib.hid (show ∀ b ∈ ([(g0 + 1, 34, #[.int .i64 1, .string xa, .string xb, .int .i64 xn, .int .i64 xm])] : List (Nat × TypeId × Array Value)), b.1 ≠ g6 from fun b hb => by have := (HS6.out.kb b hb).lt; omega)
        rw [hy, hg] at HY6
        rw [hy] ; rw [hg]
        clear hy hg HS6
        go_upto_region 10 with fail
        have HY7 := Lib.hid (HY6.out.new 34 #[.int .i64 5, .string ⟨#[]⟩, .string ⟨#[]⟩, .int .i64 1, .int .i64 0])
        obtain ⟨y7, hy⟩ : ∃ y, y6.alloc (.cells #[.int .i64 5, .string ⟨#[]⟩, .string ⟨#[]⟩, .int .i64 1, .int .i64 0] 34) = y := ⟨_, rfl⟩
        obtain ⟨g7, hg⟩ : ∃ g, y6.heap.size = g := ⟨_, rfl⟩
        have HL7 := Lib.hid (show u2.heap.size ≤ g7 from by rw [← hg]; exact HY6.out.k.size)
        have HQ7 := Lib.hid (show ∀ b ∈ ([(g6, 34, #[.int .i64 2, .string cn, .string ⟨#[]⟩, .int .i64 0, .int .i64 0]), (g0 + 1, 34, #[.int .i64 1, .string xa, .string xb, .int .i64 xn, .int .i64 xm])] : List (Nat × TypeId × Array Value)), b.1 ≠ g7 from fun b hb => by have := (HY6.out.kb b hb).lt; omega)
        rw [hy, hg] at HY7
        rw [hy] ; rw [hg]
        clear hy hg HY6
        have m0 : y7.cell? ⟨g0 + 1, 0, none⟩ = some (.int .i64 1) := (HY7.out.bk (b := g0 + 1) (t := 34) (cs := #[.int .i64 1, .string xa, .string xb, .int .i64 xn, .int .i64 xm]) (by simp)).cell 0
        have z0 : y7.cell? ⟨g7, 0, none⟩ = some (.int .i64 5) := HY7.out.head.cell 0
        have z1 : y7.cell? ⟨g7, 1, none⟩ = some (.string ⟨#[]⟩) := HY7.out.head.cell 1
        have z2 : y7.cell? ⟨g7, 2, none⟩ = some (.string ⟨#[]⟩) := HY7.out.head.cell 2
        have z3 : y7.cell? ⟨g7, 3, none⟩ = some (.int .i64 1) := HY7.out.head.cell 3
        have z4 : y7.cell? ⟨g7, 4, none⟩ = some (.int .i64 0) := HY7.out.head.cell 4
        have f0 := HY7.out.head.frozen 0
        have f1 := HY7.out.head.frozen 1
        have f2 := HY7.out.head.frozen 2
        have f3 := HY7.out.head.frozen 3
        have f4 := HY7.out.head.frozen 4
        go_upto_region 12 with ((with_reducible refine wpList_min rfl (.tmp 54) (.const (.int .i64 64)) 3 rfl _ _ _ ?hx ?hy HMIN.out ?_); (case hx => rfl); (case hy => rfl))
        clear m0 z0 z1 z2 z3 z4 f0 f1 f2 f3 f4 hsl HMIN
        refine gen_c (fun y => Ss u2 mb [] sb v (.ask xa xb cn) [(g7, 34, #[.int .i64 2, .string cn, .string ⟨#[]⟩, .int .i64 0, .int .i64 0]), (g6, 34, #[.int .i64 2, .string cn, .string ⟨#[]⟩, .int .i64 0, .int .i64 0]), (g0 + 1, 34, #[.int .i64 1, .string xa, .string xb, .int .i64 xn, .int .i64 xm])] y) (HY7.out.over5 HL7.out HQ7.out _ _ _ _ _) (fun y8 hy8 => ?_)
        have HY8 := Lib.hid hy8
        clear hy8 HY7
        have HWH := Lib.hid (fun u (hu : Ss u2 mb [] sb v (.ask xa xb cn) [(g7, 34, #[.int .i64 2, .string cn, .string ⟨#[]⟩, .int .i64 0, .int .i64 0]), (g6, 34, #[.int .i64 2, .string cn, .string ⟨#[]⟩, .int .i64 0, .int .i64 0]), (g0 + 1, 34, #[.int .i64 1, .string xa, .string xb, .int .i64 xn, .int .i64 xm])] u) => ss_who hu)
        go_upto_region 13 with (go_at_call 14; (with_reducible refine (HWH.out _ HY8.out).mono ?_); rintro e u9 ⟨rfl, hs⟩; have HS9 := Lib.hid hs; clear hs)
        have HOV := Lib.hid (fun u (hu : Bk u sb 65 #[.func (.func 37) #[.agg #[.pointer (some ⟨v, 0, none⟩), .string xa, .string xb, .string cn]] #[], .string ⟨#[]⟩]) => over_func sb _ _ _ u hu)
        try simp only [List.cons_append, List.nil_append]
        try simp only [List.cons_append, List.nil_append]
        refine wp_region_held_drew (S := fun wz => Bk wz g7 34 #[.int .i64 2, .string cn, .string ⟨#[]⟩, .int .i64 0, .int .i64 0] ∧ Bk wz g6 34 #[.int .i64 2, .string cn, .string ⟨#[]⟩, .int .i64 0, .int .i64 0] ∧ Bk wz (g0 + 1) 34 #[.int .i64 1, .string xa, .string xb, .int .i64 xn, .int .i64 xm] ∧ Bk wz sb 65 #[.func (.func 37) #[.agg #[.pointer (some ⟨v, 0, none⟩), .string xa, .string xb, .string cn]] #[], .string ⟨#[]⟩]) (by kernel_rfl) (⟨HS9.out.head.drew, (HS9.out.bk (b := g6) (t := 34) (cs := #[.int .i64 2, .string cn, .string ⟨#[]⟩, .int .i64 0, .int .i64 0]) (by simp)).drew, (HS9.out.bk (b := g0 + 1) (t := 34) (cs := #[.int .i64 1, .string xa, .string xb, .int .i64 xn, .int .i64 xm]) (by simp)).drew, HS9.out.b.drew⟩) (fun hHeld => ?_)
        refine take_at (some 63) (i := 0) (v := ?_) rfl rfl (by kernel_rfl) (by kernel_rfl) (by kernel_rfl) (fun _ _ _ h => h) (Or.inl ⟨by kernel_rfl, ?_⟩) hHeld ?_
        rotate_left
        · intro wz hSw; go_simp; try (with_reducible rfl)
        try simp only [Act.put, List.setIfInBounds_toArray, List.set_cons_zero, List.set_cons_succ, List.getElem_toArray, List.getElem_cons_succ, List.getElem_cons_zero]
        refine take_at (some 64) (i := 1) (v := ?_) rfl rfl (by kernel_rfl) (by kernel_rfl) (by kernel_rfl) (fun _ _ _ h => h) (Or.inl ⟨by kernel_rfl, ?_⟩) hHeld ?_
        rotate_left
        · intro wz hSw; go_simp; try (with_reducible rfl)
        try simp only [Act.put, List.setIfInBounds_toArray, List.set_cons_zero, List.set_cons_succ, List.getElem_toArray, List.getElem_cons_succ, List.getElem_cons_zero]
        refine take_at (some 65) (i := 2) (v := ?_) rfl rfl (by kernel_rfl) (by kernel_rfl) (by kernel_rfl) (fun _ _ _ h => h) (Or.inl ⟨by kernel_rfl, ?_⟩) hHeld ?_
        rotate_left
        · intro wz hSw; go_simp; try (with_reducible rfl)
        try simp only [Act.put, List.setIfInBounds_toArray, List.set_cons_zero, List.set_cons_succ, List.getElem_toArray, List.getElem_cons_succ, List.getElem_cons_zero]
        refine take_at (some 66) (i := 3) (v := ?_) rfl rfl (by kernel_rfl) (by kernel_rfl) (by kernel_rfl) (fun _ _ _ h => h) (Or.inl ⟨by kernel_rfl, ?_⟩) hHeld ?_
        rotate_left
        · intro wz hSw; go_simp; try (with_reducible rfl)
        try simp only [Act.put, List.setIfInBounds_toArray, List.set_cons_zero, List.set_cons_succ, List.getElem_toArray, List.getElem_cons_succ, List.getElem_cons_zero]
        refine take_at (some 67) (i := 4) (v := ?_) rfl rfl (by kernel_rfl) (by kernel_rfl) (by kernel_rfl) (fun _ _ _ h => h) (Or.inl ⟨by kernel_rfl, ?_⟩) hHeld ?_
        rotate_left
        · intro wz hSw; go_simp; try (with_reducible rfl)
        try simp only [Act.put, List.setIfInBounds_toArray, List.set_cons_zero, List.set_cons_succ, List.getElem_toArray, List.getElem_cons_succ, List.getElem_cons_zero]
        refine take_at (some 68) (i := 5) (v := ?_) rfl rfl (by kernel_rfl) (by kernel_rfl) (by kernel_rfl) (fun _ _ _ h => h) (Or.inl ⟨by kernel_rfl, ?_⟩) hHeld ?_
        rotate_left
        · intro wz hSw; have a0 : wz.cell? ⟨g7, 0, none⟩ = some (.int .i64 2) := hSw.1.cell 0; have a1 : wz.cell? ⟨g7, 1, none⟩ = some (.string cn) := hSw.1.cell 1; have a2 : wz.cell? ⟨g7, 2, none⟩ = some (.string ⟨#[]⟩) := hSw.1.cell 2; have a3 : wz.cell? ⟨g7, 3, none⟩ = some (.int .i64 0) := hSw.1.cell 3; have a4 : wz.cell? ⟨g7, 4, none⟩ = some (.int .i64 0) := hSw.1.cell 4; have b0 : wz.cell? ⟨g6, 0, none⟩ = some (.int .i64 2) := hSw.2.1.cell 0; have b1 : wz.cell? ⟨g6, 1, none⟩ = some (.string cn) := hSw.2.1.cell 1; have b2 : wz.cell? ⟨g6, 2, none⟩ = some (.string ⟨#[]⟩) := hSw.2.1.cell 2; have b3 : wz.cell? ⟨g6, 3, none⟩ = some (.int .i64 0) := hSw.2.1.cell 3; have b4 : wz.cell? ⟨g6, 4, none⟩ = some (.int .i64 0) := hSw.2.1.cell 4; have m0 : wz.cell? ⟨g0 + 1, 0, none⟩ = some (.int .i64 1) := hSw.2.2.1.cell 0; go_simp; try (with_reducible rfl)
        try simp only [Act.put, List.setIfInBounds_toArray, List.set_cons_zero, List.set_cons_succ, List.getElem_toArray, List.getElem_cons_succ, List.getElem_cons_zero]
        refine take_at (some 69) (i := 6) (v := ?_) rfl rfl (by kernel_rfl) (by kernel_rfl) (by kernel_rfl) (fun _ _ _ h => h) (Or.inl ⟨by kernel_rfl, ?_⟩) hHeld ?_
        rotate_left
        · intro wz hSw; have a0 : wz.cell? ⟨g7, 0, none⟩ = some (.int .i64 2) := hSw.1.cell 0; have a1 : wz.cell? ⟨g7, 1, none⟩ = some (.string cn) := hSw.1.cell 1; have a2 : wz.cell? ⟨g7, 2, none⟩ = some (.string ⟨#[]⟩) := hSw.1.cell 2; have a3 : wz.cell? ⟨g7, 3, none⟩ = some (.int .i64 0) := hSw.1.cell 3; have a4 : wz.cell? ⟨g7, 4, none⟩ = some (.int .i64 0) := hSw.1.cell 4; have b0 : wz.cell? ⟨g6, 0, none⟩ = some (.int .i64 2) := hSw.2.1.cell 0; have b1 : wz.cell? ⟨g6, 1, none⟩ = some (.string cn) := hSw.2.1.cell 1; have b2 : wz.cell? ⟨g6, 2, none⟩ = some (.string ⟨#[]⟩) := hSw.2.1.cell 2; have b3 : wz.cell? ⟨g6, 3, none⟩ = some (.int .i64 0) := hSw.2.1.cell 3; have b4 : wz.cell? ⟨g6, 4, none⟩ = some (.int .i64 0) := hSw.2.1.cell 4; have m0 : wz.cell? ⟨g0 + 1, 0, none⟩ = some (.int .i64 1) := hSw.2.2.1.cell 0; go_simp; try (with_reducible rfl)
        try simp only [Act.put, List.setIfInBounds_toArray, List.set_cons_zero, List.set_cons_succ, List.getElem_toArray, List.getElem_cons_succ, List.getElem_cons_zero]
        refine take_at (some 70) (i := 7) rfl rfl (by kernel_rfl) (by kernel_rfl) (by kernel_rfl) (fun _ _ _ h => h) (yields_eqm_t (by kernel_rfl) (.tmp 68) (.tmp 69) _ rfl ⟨2, cn, eS, 0, 0⟩ rfl rfl) hHeld ?_
        try simp only [Act.put, List.setIfInBounds_toArray, List.set_cons_zero, List.set_cons_succ, List.getElem_toArray, List.getElem_cons_succ, List.getElem_cons_zero]
        refine take_at (some 71) (i := 8) (v := ?_) rfl rfl (by kernel_rfl) (by kernel_rfl) (by kernel_rfl) (fun _ _ _ h => h) (Or.inl ⟨by kernel_rfl, ?_⟩) hHeld ?_
        rotate_left
        · intro wz hSw; go_simp; try (with_reducible rfl)
        try simp only [Act.put, List.setIfInBounds_toArray, List.set_cons_zero, List.set_cons_succ, List.getElem_toArray, List.getElem_cons_succ, List.getElem_cons_zero]
        refine take_at (some 72) (i := 9) (v := ?_) rfl rfl (by kernel_rfl) (by kernel_rfl) (by kernel_rfl) (fun _ _ _ h => h) (Or.inl ⟨by kernel_rfl, ?_⟩) hHeld ?_
        rotate_left
        · intro wz hSw; go_simp; try (with_reducible rfl)
        try simp only [Act.put, List.setIfInBounds_toArray, List.set_cons_zero, List.set_cons_succ, List.getElem_toArray, List.getElem_cons_succ, List.getElem_cons_zero]
        refine take_at (some 73) (i := 10) (v := ?_) rfl rfl (by kernel_rfl) (by kernel_rfl) (by kernel_rfl) (fun _ _ _ h => h) (Or.inl ⟨by kernel_rfl, ?_⟩) hHeld ?_
        rotate_left
        · intro wz hSw; go_simp; try (with_reducible rfl)
        try simp only [Act.put, List.setIfInBounds_toArray, List.set_cons_zero, List.set_cons_succ, List.getElem_toArray, List.getElem_cons_succ, List.getElem_cons_zero]
        refine take_at (some 74) (i := 11) (v := ?_) rfl rfl (by kernel_rfl) (by kernel_rfl) (by kernel_rfl) (fun _ _ _ h => h) (Or.inl ⟨by kernel_rfl, ?_⟩) hHeld ?_
        rotate_left
        · intro wz hSw; have a0 : wz.cell? ⟨g7, 0, none⟩ = some (.int .i64 2) := hSw.1.cell 0; have a1 : wz.cell? ⟨g7, 1, none⟩ = some (.string cn) := hSw.1.cell 1; have a2 : wz.cell? ⟨g7, 2, none⟩ = some (.string ⟨#[]⟩) := hSw.1.cell 2; have a3 : wz.cell? ⟨g7, 3, none⟩ = some (.int .i64 0) := hSw.1.cell 3; have a4 : wz.cell? ⟨g7, 4, none⟩ = some (.int .i64 0) := hSw.1.cell 4; have b0 : wz.cell? ⟨g6, 0, none⟩ = some (.int .i64 2) := hSw.2.1.cell 0; have b1 : wz.cell? ⟨g6, 1, none⟩ = some (.string cn) := hSw.2.1.cell 1; have b2 : wz.cell? ⟨g6, 2, none⟩ = some (.string ⟨#[]⟩) := hSw.2.1.cell 2; have b3 : wz.cell? ⟨g6, 3, none⟩ = some (.int .i64 0) := hSw.2.1.cell 3; have b4 : wz.cell? ⟨g6, 4, none⟩ = some (.int .i64 0) := hSw.2.1.cell 4; have m0 : wz.cell? ⟨g0 + 1, 0, none⟩ = some (.int .i64 1) := hSw.2.2.1.cell 0; go_simp; try (with_reducible rfl)
        try simp only [Act.put, List.setIfInBounds_toArray, List.set_cons_zero, List.set_cons_succ, List.getElem_toArray, List.getElem_cons_succ, List.getElem_cons_zero]
        refine take_at (some 75) (i := 12) (v := ?_) rfl rfl (by kernel_rfl) (by kernel_rfl) (by kernel_rfl) (fun _ _ _ h => h) (Or.inl ⟨by kernel_rfl, ?_⟩) hHeld ?_
        rotate_left
        · intro wz hSw; go_simp; try (with_reducible rfl)
        try simp only [Act.put, List.setIfInBounds_toArray, List.set_cons_zero, List.set_cons_succ, List.getElem_toArray, List.getElem_cons_succ, List.getElem_cons_zero]
        refine take_at (some 76) (i := 13) (v := ?_) rfl rfl (by kernel_rfl) (by kernel_rfl) (by kernel_rfl) (fun _ _ _ h => h) (Or.inl ⟨by kernel_rfl, ?_⟩) hHeld ?_
        rotate_left
        · intro wz hSw; go_simp; try (with_reducible rfl)
        try simp only [Act.put, List.setIfInBounds_toArray, List.set_cons_zero, List.set_cons_succ, List.getElem_toArray, List.getElem_cons_succ, List.getElem_cons_zero]
        refine take_at (some 77) (i := 14) (v := ?_) rfl rfl (by kernel_rfl) (by kernel_rfl) (by kernel_rfl) (fun _ _ _ h => h) (Or.inl ⟨by kernel_rfl, ?_⟩) hHeld ?_
        rotate_left
        · intro wz hSw; go_simp; try (with_reducible rfl)
        try simp only [Act.put, List.setIfInBounds_toArray, List.set_cons_zero, List.set_cons_succ, List.getElem_toArray, List.getElem_cons_succ, List.getElem_cons_zero]
        refine take_at (some 79) (i := 16) (v := ?_) rfl rfl (by kernel_rfl) (by kernel_rfl) (by kernel_rfl) (fun _ _ _ h => h) (Or.inl ⟨by kernel_rfl, ?_⟩) hHeld ?_
        rotate_left
        · intro wz hSw; have a0 : wz.cell? ⟨g7, 0, none⟩ = some (.int .i64 2) := hSw.1.cell 0; have a1 : wz.cell? ⟨g7, 1, none⟩ = some (.string cn) := hSw.1.cell 1; have a2 : wz.cell? ⟨g7, 2, none⟩ = some (.string ⟨#[]⟩) := hSw.1.cell 2; have a3 : wz.cell? ⟨g7, 3, none⟩ = some (.int .i64 0) := hSw.1.cell 3; have a4 : wz.cell? ⟨g7, 4, none⟩ = some (.int .i64 0) := hSw.1.cell 4; have b0 : wz.cell? ⟨g6, 0, none⟩ = some (.int .i64 2) := hSw.2.1.cell 0; have b1 : wz.cell? ⟨g6, 1, none⟩ = some (.string cn) := hSw.2.1.cell 1; have b2 : wz.cell? ⟨g6, 2, none⟩ = some (.string ⟨#[]⟩) := hSw.2.1.cell 2; have b3 : wz.cell? ⟨g6, 3, none⟩ = some (.int .i64 0) := hSw.2.1.cell 3; have b4 : wz.cell? ⟨g6, 4, none⟩ = some (.int .i64 0) := hSw.2.1.cell 4; have m0 : wz.cell? ⟨g0 + 1, 0, none⟩ = some (.int .i64 1) := hSw.2.2.1.cell 0; go_simp; try (with_reducible rfl)
        try simp only [Act.put, List.setIfInBounds_toArray, List.set_cons_zero, List.set_cons_succ, List.getElem_toArray, List.getElem_cons_succ, List.getElem_cons_zero]
        refine take_at (some 80) (i := 17) (v := ?_) rfl rfl (by kernel_rfl) (by kernel_rfl) (by kernel_rfl) (fun _ _ _ h => h) (Or.inl ⟨by kernel_rfl, ?_⟩) hHeld ?_
        rotate_left
        · intro wz hSw; have a0 : wz.cell? ⟨g7, 0, none⟩ = some (.int .i64 2) := hSw.1.cell 0; have a1 : wz.cell? ⟨g7, 1, none⟩ = some (.string cn) := hSw.1.cell 1; have a2 : wz.cell? ⟨g7, 2, none⟩ = some (.string ⟨#[]⟩) := hSw.1.cell 2; have a3 : wz.cell? ⟨g7, 3, none⟩ = some (.int .i64 0) := hSw.1.cell 3; have a4 : wz.cell? ⟨g7, 4, none⟩ = some (.int .i64 0) := hSw.1.cell 4; have b0 : wz.cell? ⟨g6, 0, none⟩ = some (.int .i64 2) := hSw.2.1.cell 0; have b1 : wz.cell? ⟨g6, 1, none⟩ = some (.string cn) := hSw.2.1.cell 1; have b2 : wz.cell? ⟨g6, 2, none⟩ = some (.string ⟨#[]⟩) := hSw.2.1.cell 2; have b3 : wz.cell? ⟨g6, 3, none⟩ = some (.int .i64 0) := hSw.2.1.cell 3; have b4 : wz.cell? ⟨g6, 4, none⟩ = some (.int .i64 0) := hSw.2.1.cell 4; have m0 : wz.cell? ⟨g0 + 1, 0, none⟩ = some (.int .i64 1) := hSw.2.2.1.cell 0; go_simp; try (with_reducible rfl)
        try simp only [Act.put, List.setIfInBounds_toArray, List.set_cons_zero, List.set_cons_succ, List.getElem_toArray, List.getElem_cons_succ, List.getElem_cons_zero]
        refine take_at (some 81) (i := 18) (v := ?_) rfl rfl (by kernel_rfl) (by kernel_rfl) (by kernel_rfl) (fun _ _ _ h => h) (Or.inl ⟨by kernel_rfl, ?_⟩) hHeld ?_
        rotate_left
        · intro wz hSw; have a0 : wz.cell? ⟨g7, 0, none⟩ = some (.int .i64 2) := hSw.1.cell 0; have a1 : wz.cell? ⟨g7, 1, none⟩ = some (.string cn) := hSw.1.cell 1; have a2 : wz.cell? ⟨g7, 2, none⟩ = some (.string ⟨#[]⟩) := hSw.1.cell 2; have a3 : wz.cell? ⟨g7, 3, none⟩ = some (.int .i64 0) := hSw.1.cell 3; have a4 : wz.cell? ⟨g7, 4, none⟩ = some (.int .i64 0) := hSw.1.cell 4; have b0 : wz.cell? ⟨g6, 0, none⟩ = some (.int .i64 2) := hSw.2.1.cell 0; have b1 : wz.cell? ⟨g6, 1, none⟩ = some (.string cn) := hSw.2.1.cell 1; have b2 : wz.cell? ⟨g6, 2, none⟩ = some (.string ⟨#[]⟩) := hSw.2.1.cell 2; have b3 : wz.cell? ⟨g6, 3, none⟩ = some (.int .i64 0) := hSw.2.1.cell 3; have b4 : wz.cell? ⟨g6, 4, none⟩ = some (.int .i64 0) := hSw.2.1.cell 4; have m0 : wz.cell? ⟨g0 + 1, 0, none⟩ = some (.int .i64 1) := hSw.2.2.1.cell 0; go_simp; try (with_reducible rfl)
        try simp only [Act.put, List.setIfInBounds_toArray, List.set_cons_zero, List.set_cons_succ, List.getElem_toArray, List.getElem_cons_succ, List.getElem_cons_zero]
        refine wpAnyH_ready (rs := [15]) (by kernel_rfl) (by simp) (AllReadyH.cons rfl (fun K hK => ?_) AllReadyH.nil)
        rw [if_pos (by kernel_rfl)]
        go_simp
        refine (HOV.out _ hHeld.2.2.2).mono ?_
        rintro e u10 ⟨rfl, hu10⟩
        try dsimp only
        rw [hu10]
        clear hu10
        refine hK.out _ _ hHeld (fun hHeld => ?_)
        try simp only [Act.put, List.setIfInBounds_toArray, List.set_cons_zero, List.set_cons_succ, List.getElem_toArray, List.getElem_cons_succ, List.getElem_cons_zero]
        refine take_at (some 82) (i := 19) (v := ?_) rfl rfl (by kernel_rfl) (by kernel_rfl) (by kernel_rfl) (fun _ _ _ h => h) (Or.inl ⟨by kernel_rfl, ?_⟩) hHeld ?_
        rotate_left
        · intro wz hSw; have a0 : wz.cell? ⟨g7, 0, none⟩ = some (.int .i64 2) := hSw.1.cell 0; have a1 : wz.cell? ⟨g7, 1, none⟩ = some (.string cn) := hSw.1.cell 1; have a2 : wz.cell? ⟨g7, 2, none⟩ = some (.string ⟨#[]⟩) := hSw.1.cell 2; have a3 : wz.cell? ⟨g7, 3, none⟩ = some (.int .i64 0) := hSw.1.cell 3; have a4 : wz.cell? ⟨g7, 4, none⟩ = some (.int .i64 0) := hSw.1.cell 4; have b0 : wz.cell? ⟨g6, 0, none⟩ = some (.int .i64 2) := hSw.2.1.cell 0; have b1 : wz.cell? ⟨g6, 1, none⟩ = some (.string cn) := hSw.2.1.cell 1; have b2 : wz.cell? ⟨g6, 2, none⟩ = some (.string ⟨#[]⟩) := hSw.2.1.cell 2; have b3 : wz.cell? ⟨g6, 3, none⟩ = some (.int .i64 0) := hSw.2.1.cell 3; have b4 : wz.cell? ⟨g6, 4, none⟩ = some (.int .i64 0) := hSw.2.1.cell 4; have m0 : wz.cell? ⟨g0 + 1, 0, none⟩ = some (.int .i64 1) := hSw.2.2.1.cell 0; go_simp; try (with_reducible rfl)
        try simp only [Act.put, List.setIfInBounds_toArray, List.set_cons_zero, List.set_cons_succ, List.getElem_toArray, List.getElem_cons_succ, List.getElem_cons_zero]
        refine take_at (some 83) (i := 20) (v := ?_) rfl rfl (by kernel_rfl) (by kernel_rfl) (by kernel_rfl) (fun _ _ _ h => h) (Or.inl ⟨by kernel_rfl, ?_⟩) hHeld ?_
        rotate_left
        · intro wz hSw; go_simp; try (with_reducible rfl)
        try simp only [Act.put, List.setIfInBounds_toArray, List.set_cons_zero, List.set_cons_succ, List.getElem_toArray, List.getElem_cons_succ, List.getElem_cons_zero]
        refine take_at (some 8) (i := 21) (v := ?_) rfl rfl (by kernel_rfl) (by kernel_rfl) (by kernel_rfl) (fun _ _ _ h => h) (Or.inl ⟨by kernel_rfl, ?_⟩) hHeld ?_
        rotate_left
        · intro wz hSw; go_simp; try (with_reducible rfl)
        try simp only [Act.put, List.setIfInBounds_toArray, List.set_cons_zero, List.set_cons_succ, List.getElem_toArray, List.getElem_cons_succ, List.getElem_cons_zero]
        refine wpAnyH_done (by kernel_rfl) ?_ _
        refine gen_qS (fun y => Below w.heap.size w y) (HSB.out.low (HS9.out.on (Below.refl _ _).drew)) (fun y hy => ?_)
        have HYE := Lib.hid hy
        clear hy hHeld
        go_wp2
        go_ret
        exact ⟨rfl, HYE.out⟩
      · have HH := Lib.hid (show ∀ L u, Ss u2 mb [] sb v .new L u → Calls Tryd.prog 13 #[.pointer (some ⟨sb, 0, none⟩), .agg #[.int .i64 xk, .string xa, .string xb, .int .i64 xn, .int .i64 xm], .int .i64 now, .string nn] u fun e u' => e = .returned (.tuple #[.agg #[.int .i64 5, .string ⟨#[]⟩, .string ⟨#[]⟩, .int .i64 1, .int .i64 0], .bool true]) ∧ Ss u2 mb [] sb v .no L u' from fun L u hu => (ss_hear HSB.out HG.out hu ⟨xk, xa, xb, xn, xm⟩ now nn (show xa.size ≤ 1099511627776 by have := HZ.out; omega) (show xb.size ≤ 140737488355328 by have := HZ.out; omega)).mono fun e u' hh => by
          have eM : hsM (ckF tn []) .new ⟨xk, xa, xb, xn, xm⟩ now nn = ⟨5, eS, eS, 1, 0⟩ := if_neg hk
          have eS' : hsS (ckF tn []) .new ⟨xk, xa, xb, xn, xm⟩ now nn = .no := if_neg hk
          rw [eM, eS'] at hh
          exact hh)
        have hk1 : (xk == 1) = false := beq_eq_false_iff_ne.2 hk
        have hk2 : (xk != 1) = true := by rw [bne_iff_ne]; exact hk
        go_upto_region 9 with (go_at_call 13; (with_reducible refine (HH.out _ _ HS5.out).mono ?_); rintro e u6 ⟨rfl, hs⟩; have HS6 := Lib.hid hs; clear hs HS5 m0 m1 m2 m3 m4)
        have HY6 := Lib.hid (HS6.out.new 34 #[.int .i64 5, .string ⟨#[]⟩, .string ⟨#[]⟩, .int .i64 1, .int .i64 0])
        obtain ⟨y6, hy⟩ : ∃ y, u6.alloc (.cells #[.int .i64 5, .string ⟨#[]⟩, .string ⟨#[]⟩, .int .i64 1, .int .i64 0] 34) = y := ⟨_, rfl⟩
        obtain ⟨g6, hg⟩ : ∃ g, u6.heap.size = g := ⟨_, rfl⟩
        have HL6 := Lib.hid (show u2.heap.size ≤ g6 from by rw [← hg]; exact HS6.out.k.size)
        have HQ6 := Lib.hid (show ∀ b ∈ ([(g0 + 1, 34, #[.int .i64 xk, .string xa, .string xb, .int .i64 xn, .int .i64 xm])] : List (Nat × TypeId × Array Value)), b.1 ≠ g6 from fun b hb => by have := (HS6.out.kb b hb).lt; omega)
        rw [hy, hg] at HY6
        rw [hy] ; rw [hg]
        clear hy hg HS6
        go_upto_region 10 with fail
        have HY7 := Lib.hid (HY6.out.new 34 #[.int .i64 5, .string ⟨#[]⟩, .string ⟨#[]⟩, .int .i64 1, .int .i64 0])
        obtain ⟨y7, hy⟩ : ∃ y, y6.alloc (.cells #[.int .i64 5, .string ⟨#[]⟩, .string ⟨#[]⟩, .int .i64 1, .int .i64 0] 34) = y := ⟨_, rfl⟩
        obtain ⟨g7, hg⟩ : ∃ g, y6.heap.size = g := ⟨_, rfl⟩
        have HL7 := Lib.hid (show u2.heap.size ≤ g7 from by rw [← hg]; exact HY6.out.k.size)
        have HQ7 := Lib.hid (show ∀ b ∈ ([(g6, 34, #[.int .i64 5, .string ⟨#[]⟩, .string ⟨#[]⟩, .int .i64 1, .int .i64 0]), (g0 + 1, 34, #[.int .i64 xk, .string xa, .string xb, .int .i64 xn, .int .i64 xm])] : List (Nat × TypeId × Array Value)), b.1 ≠ g7 from fun b hb => by have := (HY6.out.kb b hb).lt; omega)
        rw [hy, hg] at HY7
        rw [hy] ; rw [hg]
        clear hy hg HY6
        have m0 : y7.cell? ⟨g0 + 1, 0, none⟩ = some (.int .i64 xk) := (HY7.out.bk (b := g0 + 1) (t := 34) (cs := #[.int .i64 xk, .string xa, .string xb, .int .i64 xn, .int .i64 xm]) (by simp)).cell 0
        have HY8 := HY7
        go_upto_region 12 with fail
        clear m0 HY7
        have HWH := Lib.hid (fun u (hu : Ss u2 mb [] sb v (.no) [(g7, 34, #[.int .i64 5, .string ⟨#[]⟩, .string ⟨#[]⟩, .int .i64 1, .int .i64 0]), (g6, 34, #[.int .i64 5, .string ⟨#[]⟩, .string ⟨#[]⟩, .int .i64 1, .int .i64 0]), (g0 + 1, 34, #[.int .i64 xk, .string xa, .string xb, .int .i64 xn, .int .i64 xm])] u) => ss_who hu)
        go_upto_region 13 with (go_at_call 14; (with_reducible refine (HWH.out _ HY8.out).mono ?_); rintro e u9 ⟨rfl, hs⟩; have HS9 := Lib.hid hs; clear hs)
        have HOV := Lib.hid (fun u (hu : Bk u sb 65 #[.nilFunc, .string ⟨#[]⟩]) => over_nil sb _ u hu)
        try simp only [List.cons_append, List.nil_append]
        try simp only [List.cons_append, List.nil_append]
        refine wp_region_held_drew (S := fun wz => Bk wz g7 34 #[.int .i64 5, .string ⟨#[]⟩, .string ⟨#[]⟩, .int .i64 1, .int .i64 0] ∧ Bk wz g6 34 #[.int .i64 5, .string ⟨#[]⟩, .string ⟨#[]⟩, .int .i64 1, .int .i64 0] ∧ Bk wz (g0 + 1) 34 #[.int .i64 xk, .string xa, .string xb, .int .i64 xn, .int .i64 xm] ∧ Bk wz sb 65 #[.nilFunc, .string ⟨#[]⟩]) (by kernel_rfl) (⟨HS9.out.head.drew, (HS9.out.bk (b := g6) (t := 34) (cs := #[.int .i64 5, .string ⟨#[]⟩, .string ⟨#[]⟩, .int .i64 1, .int .i64 0]) (by simp)).drew, (HS9.out.bk (b := g0 + 1) (t := 34) (cs := #[.int .i64 xk, .string xa, .string xb, .int .i64 xn, .int .i64 xm]) (by simp)).drew, HS9.out.b.drew⟩) (fun hHeld => ?_)
        refine take_at (some 63) (i := 0) (v := ?_) rfl rfl (by kernel_rfl) (by kernel_rfl) (by kernel_rfl) (fun _ _ _ h => h) (Or.inl ⟨by kernel_rfl, ?_⟩) hHeld ?_
        rotate_left
        · intro wz hSw; go_simp; try (with_reducible rfl)
        try simp only [Act.put, List.setIfInBounds_toArray, List.set_cons_zero, List.set_cons_succ, List.getElem_toArray, List.getElem_cons_succ, List.getElem_cons_zero]
        refine take_at (some 64) (i := 1) (v := ?_) rfl rfl (by kernel_rfl) (by kernel_rfl) (by kernel_rfl) (fun _ _ _ h => h) (Or.inl ⟨by kernel_rfl, ?_⟩) hHeld ?_
        rotate_left
        · intro wz hSw; go_simp; try (with_reducible rfl)
        try simp only [Act.put, List.setIfInBounds_toArray, List.set_cons_zero, List.set_cons_succ, List.getElem_toArray, List.getElem_cons_succ, List.getElem_cons_zero]
        refine take_at (some 65) (i := 2) (v := ?_) rfl rfl (by kernel_rfl) (by kernel_rfl) (by kernel_rfl) (fun _ _ _ h => h) (Or.inl ⟨by kernel_rfl, ?_⟩) hHeld ?_
        rotate_left
        · intro wz hSw; go_simp; try (with_reducible rfl)
        try simp only [Act.put, List.setIfInBounds_toArray, List.set_cons_zero, List.set_cons_succ, List.getElem_toArray, List.getElem_cons_succ, List.getElem_cons_zero]
        refine take_at (some 66) (i := 3) (v := ?_) rfl rfl (by kernel_rfl) (by kernel_rfl) (by kernel_rfl) (fun _ _ _ h => h) (Or.inl ⟨by kernel_rfl, ?_⟩) hHeld ?_
        rotate_left
        · intro wz hSw; go_simp; try (with_reducible rfl)
        try simp only [Act.put, List.setIfInBounds_toArray, List.set_cons_zero, List.set_cons_succ, List.getElem_toArray, List.getElem_cons_succ, List.getElem_cons_zero]
        refine take_at (some 67) (i := 4) (v := ?_) rfl rfl (by kernel_rfl) (by kernel_rfl) (by kernel_rfl) (fun _ _ _ h => h) (Or.inl ⟨by kernel_rfl, ?_⟩) hHeld ?_
        rotate_left
        · intro wz hSw; go_simp; try (with_reducible rfl)
        try simp only [Act.put, List.setIfInBounds_toArray, List.set_cons_zero, List.set_cons_succ, List.getElem_toArray, List.getElem_cons_succ, List.getElem_cons_zero]
        refine take_at (some 68) (i := 5) (v := ?_) rfl rfl (by kernel_rfl) (by kernel_rfl) (by kernel_rfl) (fun _ _ _ h => h) (Or.inl ⟨by kernel_rfl, ?_⟩) hHeld ?_
        rotate_left
        · intro wz hSw; have a0 : wz.cell? ⟨g7, 0, none⟩ = some (.int .i64 5) := hSw.1.cell 0; have a1 : wz.cell? ⟨g7, 1, none⟩ = some (.string ⟨#[]⟩) := hSw.1.cell 1; have a2 : wz.cell? ⟨g7, 2, none⟩ = some (.string ⟨#[]⟩) := hSw.1.cell 2; have a3 : wz.cell? ⟨g7, 3, none⟩ = some (.int .i64 1) := hSw.1.cell 3; have a4 : wz.cell? ⟨g7, 4, none⟩ = some (.int .i64 0) := hSw.1.cell 4; have b0 : wz.cell? ⟨g6, 0, none⟩ = some (.int .i64 5) := hSw.2.1.cell 0; have b1 : wz.cell? ⟨g6, 1, none⟩ = some (.string ⟨#[]⟩) := hSw.2.1.cell 1; have b2 : wz.cell? ⟨g6, 2, none⟩ = some (.string ⟨#[]⟩) := hSw.2.1.cell 2; have b3 : wz.cell? ⟨g6, 3, none⟩ = some (.int .i64 1) := hSw.2.1.cell 3; have b4 : wz.cell? ⟨g6, 4, none⟩ = some (.int .i64 0) := hSw.2.1.cell 4; have m0 : wz.cell? ⟨g0 + 1, 0, none⟩ = some (.int .i64 xk) := hSw.2.2.1.cell 0; go_simp; try (with_reducible rfl)
        try simp only [Act.put, List.setIfInBounds_toArray, List.set_cons_zero, List.set_cons_succ, List.getElem_toArray, List.getElem_cons_succ, List.getElem_cons_zero]
        refine take_at (some 69) (i := 6) (v := ?_) rfl rfl (by kernel_rfl) (by kernel_rfl) (by kernel_rfl) (fun _ _ _ h => h) (Or.inl ⟨by kernel_rfl, ?_⟩) hHeld ?_
        rotate_left
        · intro wz hSw; have a0 : wz.cell? ⟨g7, 0, none⟩ = some (.int .i64 5) := hSw.1.cell 0; have a1 : wz.cell? ⟨g7, 1, none⟩ = some (.string ⟨#[]⟩) := hSw.1.cell 1; have a2 : wz.cell? ⟨g7, 2, none⟩ = some (.string ⟨#[]⟩) := hSw.1.cell 2; have a3 : wz.cell? ⟨g7, 3, none⟩ = some (.int .i64 1) := hSw.1.cell 3; have a4 : wz.cell? ⟨g7, 4, none⟩ = some (.int .i64 0) := hSw.1.cell 4; have b0 : wz.cell? ⟨g6, 0, none⟩ = some (.int .i64 5) := hSw.2.1.cell 0; have b1 : wz.cell? ⟨g6, 1, none⟩ = some (.string ⟨#[]⟩) := hSw.2.1.cell 1; have b2 : wz.cell? ⟨g6, 2, none⟩ = some (.string ⟨#[]⟩) := hSw.2.1.cell 2; have b3 : wz.cell? ⟨g6, 3, none⟩ = some (.int .i64 1) := hSw.2.1.cell 3; have b4 : wz.cell? ⟨g6, 4, none⟩ = some (.int .i64 0) := hSw.2.1.cell 4; have m0 : wz.cell? ⟨g0 + 1, 0, none⟩ = some (.int .i64 xk) := hSw.2.2.1.cell 0; go_simp; try (with_reducible rfl)
        try simp only [Act.put, List.setIfInBounds_toArray, List.set_cons_zero, List.set_cons_succ, List.getElem_toArray, List.getElem_cons_succ, List.getElem_cons_zero]
        refine take_at (some 70) (i := 7) rfl rfl (by kernel_rfl) (by kernel_rfl) (by kernel_rfl) (fun _ _ _ h => h) (yields_eqm_t (by kernel_rfl) (.tmp 68) (.tmp 69) _ rfl ⟨5, eS, eS, 1, 0⟩ rfl rfl) hHeld ?_
        try simp only [Act.put, List.setIfInBounds_toArray, List.set_cons_zero, List.set_cons_succ, List.getElem_toArray, List.getElem_cons_succ, List.getElem_cons_zero]
        refine take_at (some 71) (i := 8) (v := ?_) rfl rfl (by kernel_rfl) (by kernel_rfl) (by kernel_rfl) (fun _ _ _ h => h) (Or.inl ⟨by kernel_rfl, ?_⟩) hHeld ?_
        rotate_left
        · intro wz hSw; go_simp; try (with_reducible rfl)
        try simp only [Act.put, List.setIfInBounds_toArray, List.set_cons_zero, List.set_cons_succ, List.getElem_toArray, List.getElem_cons_succ, List.getElem_cons_zero]
        refine take_at (some 72) (i := 9) (v := ?_) rfl rfl (by kernel_rfl) (by kernel_rfl) (by kernel_rfl) (fun _ _ _ h => h) (Or.inl ⟨by kernel_rfl, ?_⟩) hHeld ?_
        rotate_left
        · intro wz hSw; go_simp; try (with_reducible rfl)
        try simp only [Act.put, List.setIfInBounds_toArray, List.set_cons_zero, List.set_cons_succ, List.getElem_toArray, List.getElem_cons_succ, List.getElem_cons_zero]
        refine take_at (some 73) (i := 10) (v := ?_) rfl rfl (by kernel_rfl) (by kernel_rfl) (by kernel_rfl) (fun _ _ _ h => h) (Or.inl ⟨by kernel_rfl, ?_⟩) hHeld ?_
        rotate_left
        · intro wz hSw; go_simp; try (with_reducible rfl)
        try simp only [Act.put, List.setIfInBounds_toArray, List.set_cons_zero, List.set_cons_succ, List.getElem_toArray, List.getElem_cons_succ, List.getElem_cons_zero]
        refine take_at (some 74) (i := 11) (v := ?_) rfl rfl (by kernel_rfl) (by kernel_rfl) (by kernel_rfl) (fun _ _ _ h => h) (Or.inl ⟨by kernel_rfl, ?_⟩) hHeld ?_
        rotate_left
        · intro wz hSw; have a0 : wz.cell? ⟨g7, 0, none⟩ = some (.int .i64 5) := hSw.1.cell 0; have a1 : wz.cell? ⟨g7, 1, none⟩ = some (.string ⟨#[]⟩) := hSw.1.cell 1; have a2 : wz.cell? ⟨g7, 2, none⟩ = some (.string ⟨#[]⟩) := hSw.1.cell 2; have a3 : wz.cell? ⟨g7, 3, none⟩ = some (.int .i64 1) := hSw.1.cell 3; have a4 : wz.cell? ⟨g7, 4, none⟩ = some (.int .i64 0) := hSw.1.cell 4; have b0 : wz.cell? ⟨g6, 0, none⟩ = some (.int .i64 5) := hSw.2.1.cell 0; have b1 : wz.cell? ⟨g6, 1, none⟩ = some (.string ⟨#[]⟩) := hSw.2.1.cell 1; have b2 : wz.cell? ⟨g6, 2, none⟩ = some (.string ⟨#[]⟩) := hSw.2.1.cell 2; have b3 : wz.cell? ⟨g6, 3, none⟩ = some (.int .i64 1) := hSw.2.1.cell 3; have b4 : wz.cell? ⟨g6, 4, none⟩ = some (.int .i64 0) := hSw.2.1.cell 4; have m0 : wz.cell? ⟨g0 + 1, 0, none⟩ = some (.int .i64 xk) := hSw.2.2.1.cell 0; go_simp; try (with_reducible rfl)
        try simp only [Act.put, List.setIfInBounds_toArray, List.set_cons_zero, List.set_cons_succ, List.getElem_toArray, List.getElem_cons_succ, List.getElem_cons_zero]
        refine take_at (some 75) (i := 12) (v := ?_) rfl rfl (by kernel_rfl) (by kernel_rfl) (by kernel_rfl) (fun _ _ _ h => h) (Or.inl ⟨by kernel_rfl, ?_⟩) hHeld ?_
        rotate_left
        · intro wz hSw; go_simp; try (with_reducible rfl)
        try simp only [Act.put, List.setIfInBounds_toArray, List.set_cons_zero, List.set_cons_succ, List.getElem_toArray, List.getElem_cons_succ, List.getElem_cons_zero]
        refine take_at (some 76) (i := 13) (v := ?_) rfl rfl (by kernel_rfl) (by kernel_rfl) (by kernel_rfl) (fun _ _ _ h => h) (Or.inl ⟨by kernel_rfl, ?_⟩) hHeld ?_
        rotate_left
        · intro wz hSw; go_simp; try (with_reducible rfl)
        try simp only [Act.put, List.setIfInBounds_toArray, List.set_cons_zero, List.set_cons_succ, List.getElem_toArray, List.getElem_cons_succ, List.getElem_cons_zero]
        refine take_at (some 77) (i := 14) (v := ?_) rfl rfl (by kernel_rfl) (by kernel_rfl) (by kernel_rfl) (fun _ _ _ h => h) (Or.inl ⟨by kernel_rfl, ?_⟩) hHeld ?_
        rotate_left
        · intro wz hSw; go_simp; try (with_reducible rfl)
        try simp only [Act.put, List.setIfInBounds_toArray, List.set_cons_zero, List.set_cons_succ, List.getElem_toArray, List.getElem_cons_succ, List.getElem_cons_zero]
        refine take_at (some 79) (i := 16) (v := ?_) rfl rfl (by kernel_rfl) (by kernel_rfl) (by kernel_rfl) (fun _ _ _ h => h) (Or.inl ⟨by kernel_rfl, ?_⟩) hHeld ?_
        rotate_left
        · intro wz hSw; have a0 : wz.cell? ⟨g7, 0, none⟩ = some (.int .i64 5) := hSw.1.cell 0; have a1 : wz.cell? ⟨g7, 1, none⟩ = some (.string ⟨#[]⟩) := hSw.1.cell 1; have a2 : wz.cell? ⟨g7, 2, none⟩ = some (.string ⟨#[]⟩) := hSw.1.cell 2; have a3 : wz.cell? ⟨g7, 3, none⟩ = some (.int .i64 1) := hSw.1.cell 3; have a4 : wz.cell? ⟨g7, 4, none⟩ = some (.int .i64 0) := hSw.1.cell 4; have b0 : wz.cell? ⟨g6, 0, none⟩ = some (.int .i64 5) := hSw.2.1.cell 0; have b1 : wz.cell? ⟨g6, 1, none⟩ = some (.string ⟨#[]⟩) := hSw.2.1.cell 1; have b2 : wz.cell? ⟨g6, 2, none⟩ = some (.string ⟨#[]⟩) := hSw.2.1.cell 2; have b3 : wz.cell? ⟨g6, 3, none⟩ = some (.int .i64 1) := hSw.2.1.cell 3; have b4 : wz.cell? ⟨g6, 4, none⟩ = some (.int .i64 0) := hSw.2.1.cell 4; have m0 : wz.cell? ⟨g0 + 1, 0, none⟩ = some (.int .i64 xk) := hSw.2.2.1.cell 0; go_simp; try (with_reducible rfl)
        try simp only [Act.put, List.setIfInBounds_toArray, List.set_cons_zero, List.set_cons_succ, List.getElem_toArray, List.getElem_cons_succ, List.getElem_cons_zero]
        refine take_at (some 80) (i := 17) (v := ?_) rfl rfl (by kernel_rfl) (by kernel_rfl) (by kernel_rfl) (fun _ _ _ h => h) (Or.inl ⟨by kernel_rfl, ?_⟩) hHeld ?_
        rotate_left
        · intro wz hSw; have a0 : wz.cell? ⟨g7, 0, none⟩ = some (.int .i64 5) := hSw.1.cell 0; have a1 : wz.cell? ⟨g7, 1, none⟩ = some (.string ⟨#[]⟩) := hSw.1.cell 1; have a2 : wz.cell? ⟨g7, 2, none⟩ = some (.string ⟨#[]⟩) := hSw.1.cell 2; have a3 : wz.cell? ⟨g7, 3, none⟩ = some (.int .i64 1) := hSw.1.cell 3; have a4 : wz.cell? ⟨g7, 4, none⟩ = some (.int .i64 0) := hSw.1.cell 4; have b0 : wz.cell? ⟨g6, 0, none⟩ = some (.int .i64 5) := hSw.2.1.cell 0; have b1 : wz.cell? ⟨g6, 1, none⟩ = some (.string ⟨#[]⟩) := hSw.2.1.cell 1; have b2 : wz.cell? ⟨g6, 2, none⟩ = some (.string ⟨#[]⟩) := hSw.2.1.cell 2; have b3 : wz.cell? ⟨g6, 3, none⟩ = some (.int .i64 1) := hSw.2.1.cell 3; have b4 : wz.cell? ⟨g6, 4, none⟩ = some (.int .i64 0) := hSw.2.1.cell 4; have m0 : wz.cell? ⟨g0 + 1, 0, none⟩ = some (.int .i64 xk) := hSw.2.2.1.cell 0; go_simp; try (with_reducible rfl)
        try simp only [Act.put, List.setIfInBounds_toArray, List.set_cons_zero, List.set_cons_succ, List.getElem_toArray, List.getElem_cons_succ, List.getElem_cons_zero]
        refine take_at (some 81) (i := 18) (v := ?_) rfl rfl (by kernel_rfl) (by kernel_rfl) (by kernel_rfl) (fun _ _ _ h => h) (Or.inl ⟨by kernel_rfl, ?_⟩) hHeld ?_
        rotate_left
        · intro wz hSw; have a0 : wz.cell? ⟨g7, 0, none⟩ = some (.int .i64 5) := hSw.1.cell 0; have a1 : wz.cell? ⟨g7, 1, none⟩ = some (.string ⟨#[]⟩) := hSw.1.cell 1; have a2 : wz.cell? ⟨g7, 2, none⟩ = some (.string ⟨#[]⟩) := hSw.1.cell 2; have a3 : wz.cell? ⟨g7, 3, none⟩ = some (.int .i64 1) := hSw.1.cell 3; have a4 : wz.cell? ⟨g7, 4, none⟩ = some (.int .i64 0) := hSw.1.cell 4; have b0 : wz.cell? ⟨g6, 0, none⟩ = some (.int .i64 5) := hSw.2.1.cell 0; have b1 : wz.cell? ⟨g6, 1, none⟩ = some (.string ⟨#[]⟩) := hSw.2.1.cell 1; have b2 : wz.cell? ⟨g6, 2, none⟩ = some (.string ⟨#[]⟩) := hSw.2.1.cell 2; have b3 : wz.cell? ⟨g6, 3, none⟩ = some (.int .i64 1) := hSw.2.1.cell 3; have b4 : wz.cell? ⟨g6, 4, none⟩ = some (.int .i64 0) := hSw.2.1.cell 4; have m0 : wz.cell? ⟨g0 + 1, 0, none⟩ = some (.int .i64 xk) := hSw.2.2.1.cell 0; go_simp; try (with_reducible rfl)
        try simp only [Act.put, List.setIfInBounds_toArray, List.set_cons_zero, List.set_cons_succ, List.getElem_toArray, List.getElem_cons_succ, List.getElem_cons_zero]
        refine wpAnyH_ready (rs := [15]) (by kernel_rfl) (by simp) (AllReadyH.cons rfl (fun K hK => ?_) AllReadyH.nil)
        rw [if_pos (by kernel_rfl)]
        go_simp
        refine (HOV.out _ hHeld.2.2.2).mono ?_
        rintro e u10 ⟨rfl, hu10⟩
        try dsimp only
        rw [hu10]
        clear hu10
        refine hK.out _ _ hHeld (fun hHeld => ?_)
        try simp only [Act.put, List.setIfInBounds_toArray, List.set_cons_zero, List.set_cons_succ, List.getElem_toArray, List.getElem_cons_succ, List.getElem_cons_zero]
        refine take_at (some 82) (i := 19) (v := ?_) rfl rfl (by kernel_rfl) (by kernel_rfl) (by kernel_rfl) (fun _ _ _ h => h) (Or.inl ⟨by kernel_rfl, ?_⟩) hHeld ?_
        rotate_left
        · intro wz hSw; have a0 : wz.cell? ⟨g7, 0, none⟩ = some (.int .i64 5) := hSw.1.cell 0; have a1 : wz.cell? ⟨g7, 1, none⟩ = some (.string ⟨#[]⟩) := hSw.1.cell 1; have a2 : wz.cell? ⟨g7, 2, none⟩ = some (.string ⟨#[]⟩) := hSw.1.cell 2; have a3 : wz.cell? ⟨g7, 3, none⟩ = some (.int .i64 1) := hSw.1.cell 3; have a4 : wz.cell? ⟨g7, 4, none⟩ = some (.int .i64 0) := hSw.1.cell 4; have b0 : wz.cell? ⟨g6, 0, none⟩ = some (.int .i64 5) := hSw.2.1.cell 0; have b1 : wz.cell? ⟨g6, 1, none⟩ = some (.string ⟨#[]⟩) := hSw.2.1.cell 1; have b2 : wz.cell? ⟨g6, 2, none⟩ = some (.string ⟨#[]⟩) := hSw.2.1.cell 2; have b3 : wz.cell? ⟨g6, 3, none⟩ = some (.int .i64 1) := hSw.2.1.cell 3; have b4 : wz.cell? ⟨g6, 4, none⟩ = some (.int .i64 0) := hSw.2.1.cell 4; have m0 : wz.cell? ⟨g0 + 1, 0, none⟩ = some (.int .i64 xk) := hSw.2.2.1.cell 0; go_simp; try (with_reducible rfl)
        try simp only [Act.put, List.setIfInBounds_toArray, List.set_cons_zero, List.set_cons_succ, List.getElem_toArray, List.getElem_cons_succ, List.getElem_cons_zero]
        refine take_at (some 83) (i := 20) (v := ?_) rfl rfl (by kernel_rfl) (by kernel_rfl) (by kernel_rfl) (fun _ _ _ h => h) (Or.inl ⟨by kernel_rfl, ?_⟩) hHeld ?_
        rotate_left
        · intro wz hSw; go_simp; try (with_reducible rfl)
        try simp only [Act.put, List.setIfInBounds_toArray, List.set_cons_zero, List.set_cons_succ, List.getElem_toArray, List.getElem_cons_succ, List.getElem_cons_zero]
        refine take_at (some 8) (i := 21) (v := ?_) rfl rfl (by kernel_rfl) (by kernel_rfl) (by kernel_rfl) (fun _ _ _ h => h) (Or.inl ⟨by kernel_rfl, ?_⟩) hHeld ?_
        rotate_left
        · intro wz hSw; go_simp; try (with_reducible rfl)
        try simp only [Act.put, List.setIfInBounds_toArray, List.set_cons_zero, List.set_cons_succ, List.getElem_toArray, List.getElem_cons_succ, List.getElem_cons_zero]
        refine wpAnyH_done (by kernel_rfl) ?_ _
        refine gen_qS (fun y => Below w.heap.size w y) (HSB.out.low (HS9.out.on (Below.refl _ _).drew)) (fun y hy => ?_)
        have HYE := Lib.hid hy
        clear hy hHeld
        go_wp2
        go_ret
        exact ⟨rfl, HYE.out⟩
end Go.Proofs.YtekobdmlgbffnaaDoor
