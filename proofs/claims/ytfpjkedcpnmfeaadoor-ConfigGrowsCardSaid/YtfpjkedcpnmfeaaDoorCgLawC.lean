/- ConfigChanged: the walk. (Written by gen_cgc.py.) -/
import Derived.Test.YtfpjkedcpnmfeaaDoorCgH
import Derived.Test.YtfpjkedcpnmfeaaDoorCgG
import Derived.Test.YtfpjkedcpnmfeaaDoorM2
import Derived.Test.YtfpjkedcpnmfeaaDoorCfgX
namespace Go.Proofs.YtfpjkedcpnmfeaaDoor
set_option linter.unusedVariables false
set_option linter.unusedSimpArgs false
open Go.RowKit

theorem InCf.on {w u : World} {x : Cv} (h : InCf w x) (hb : Below w.heap.size w u) : InCf u x := ⟨h.rc.on hb, h.n, fun y hy => ⟨(h.each y hy).r.on hb, (h.each y hy).nn, (h.each y hy).nk⟩⟩
theorem gnat_u8 (a : Int) (h : (Lit.int .u8 a).wf = true) : ∃ v : Nat, v < 256 ∧ a = (v : Int) := by
  have hmin : IntKind.u8.min = 0 := by decide
  have hmax : IntKind.u8.max = 255 := by decide
  simp only [Lit.wf, Bool.and_eq_true, decide_eq_true_eq, hmin, hmax] at h
  exact ⟨a.toNat, by omega, by omega⟩
theorem fl_upd {β : Type} {k : Nat} {f : β → Array Value} (hf : ∀ x, (f x).size = k) (T R : List β) (y y' : β) (j : Nat) (hj : j < k) (v : Value) (hv : f y' = (f y).setIfInBounds j v) : fl f (T ++ y' :: R) = (fl f (T ++ y :: R)).set (T.length * k + j) v := by
  have h1 := fl_set hf T y y' j hj v hv
  have e1 : T ++ y' :: R = (T ++ [y']) ++ R := by simp
  have e2 : T ++ y :: R = (T ++ [y]) ++ R := by simp
  rw [e1, e2, fl_app, fl_app f (T ++ [y]), h1, List.set_append_left]
  rw [fl_length hf, List.length_append, List.length_singleton, Nat.add_mul, Nat.one_mul]
  omega
theorem gen_anyC {P : Program} {md : Region.Mode} {ops : Array Oper} {Q : Exit → Act → World → Prop} {S' : World → Prop} {fuel : Nat} {listed : Array Bool} {a : Act} {w : World} (S : World → Prop) (hS : S w) (h : ∀ u, S u → wpAnyH P md ops Q S' fuel listed a u) : wpAnyH P md ops Q S' fuel listed a w := h w hS
theorem gen_qC {Q : Exit → Act → World → Prop} {e : Exit} {a : Act} {w : World} (S : World → Prop) (hS : S w) (h : ∀ u, S u → Q e a u) : Q e a w := h w hS
/-- One cell of a row turned. -/
theorem Ow.upd {β : Type} {k : Nat} {f : β → Array Value} {e : TypeId} {u : World} {B g c : Nat} {T R : List β} {y : β} (hf : ∀ x, (f x).size = k) (h : Ow e k f u B (some ⟨g, 0, none⟩) c (T ++ y :: R)) (y' : β) (j : Nat) (hj : j < k) (v : Value) (hv : f y' = (f y).setIfInBounds j v) :
    Ow e k f (u.setCell ⟨g, T.length * k + j, none⟩ v) B (some ⟨g, 0, none⟩) c (T ++ y' :: R) := by
  have := (World.ownsRow.stored h (T.length * k + j) v).1
  unfold Ow
  rw [fl_upd hf T R y y' j hj v hv]
  simpa using this

set_option maxRecDepth 100000 in
set_option maxHeartbeats 16000000 in
theorem walk_ConfigChanged (x : Cv) (at0 : Int) (w : World) (h : InCf w x) (wa : (Lit.int .u8 at0).wf = true) (hG : True) :
    Calls Tryd.prog 5 #[.agg (ccs x), .int .u8 at0] w fun e w' => e = .returned (.bool true) ∧ Below w.heap.size w w' := by
  obtain ⟨v, hv, rfl⟩ := gnat_u8 at0 wa
  clear wa
  have HGR := Lib.hid (fun u (hu : Below w.heap.size w u) => great_ok x u (h.on hu))
  have HRI := Lib.hid (fun u (hu : Below w.heap.size w u) => right_cfg x u (h.rc.on hu))
  have HRA := Lib.hid (fun u (hu : Below w.heap.size w u) => right_cfg ⟨x.wait, x.grace, 0, x.lease, x.ts, x.A, x.c⟩ u ⟨(h.rc.on hu).r, (h.rc.on hu).f⟩)
  have HRB := Lib.hid (fun u (hu : Below w.heap.size w u) => right_cfg ⟨1073741825, x.grace, x.idle, x.lease, x.ts, x.A, x.c⟩ u ⟨(h.rc.on hu).r, (h.rc.on hu).f⟩)
  have HRC := Lib.hid h.rc
  have hfit := h.rc.f
  obtain ⟨a0, a1, a2, a3, ts, A, c⟩ := x
  dsimp only at hfit HRA HRB
  obtain ⟨n, hn⟩ : ∃ n, ts.length = n := ⟨_, rfl⟩
  have HN := Lib.hid hn
  have hcap := hfit.cap
  have hmax := hfit.max
  have HNIL := Lib.hid hfit.nil_
  rw [hn] at hcap HNIL
  obtain ⟨C, hC⟩ : ∃ C, cfgB (Cv.cg ⟨a0, a1, a2, a3, ts, A, c⟩) = C := ⟨_, rfl⟩
  simp only [hC] at HRI
  simp only [show cfgB (Cv.cg ⟨a0, a1, 0, a3, ts, A, c⟩) = false from cfg_idle0 _ _ _ _] at HRA
  simp only [show cfgB (Cv.cg ⟨1073741825, a1, a2, a3, ts, A, c⟩) = false from cfg_waitB _ _ _ _] at HRB
  simp only [ccs, hn] at HGR HRI HRA HRB ⊢
  have HX := Lib.hid (show Bx w w.heap.size 24 #[.int .i64 a0, .int .i64 a1, .int .i64 a2, .int .i64 a3, .slice A n c] (w.alloc (.cells #[.int .i64 a0, .int .i64 a1, .int .i64 a2, .int .i64 a3, .slice A n c] 24)) from Bx.new w _ _)
  have hn9 : n ≤ 9223372036854775807 := by omega
  clear h hn hfit hC
  go_enter Tryd.func5, Tryd.ntmps5
  go_upto_region 2 with (go_at_call 8; refine (chead_ok _).mono ?_; rintro e u1 ⟨rfl, hb⟩; have HX1 := Lib.hid (HX.out.on hb); clear hb)
  obtain ⟨g0, hg0⟩ : ∃ g, w.heap.size = g := ⟨_, rfl⟩
  have HG0 := Lib.hid hg0
  rw [hg0] at HX1 ⊢
  clear hg0
  have e0 : u1.cell? ⟨g0, 0, none⟩ = some (.int .i64 a0) := HX1.out.b.cell 0
  have e1 : u1.cell? ⟨g0, 1, none⟩ = some (.int .i64 a1) := HX1.out.b.cell 1
  have e2 : u1.cell? ⟨g0, 2, none⟩ = some (.int .i64 a2) := HX1.out.b.cell 2
  have e3 : u1.cell? ⟨g0, 3, none⟩ = some (.int .i64 a3) := HX1.out.b.cell 3
  have e4 : u1.cell? ⟨g0, 4, none⟩ = some (.slice A n c) := HX1.out.b.cell 4
  cases C with
  | false =>
    go_wp2_with (first
      | (go_at_call 9; (with_reducible refine (HGR.out _ HX1.out.l).mono ?_); rintro e u2 ⟨g, rfl, _, hb⟩; have HX2 := Lib.hid (HX1.out.on hb); clear hb; clear e0 e1 e2 e3 e4; have e0 : u2.cell? ⟨g0, 0, none⟩ = some (.int .i64 a0) := HX2.out.b.cell 0; have e1 : u2.cell? ⟨g0, 1, none⟩ = some (.int .i64 a1) := HX2.out.b.cell 1; have e2 : u2.cell? ⟨g0, 2, none⟩ = some (.int .i64 a2) := HX2.out.b.cell 2; have e3 : u2.cell? ⟨g0, 3, none⟩ = some (.int .i64 a3) := HX2.out.b.cell 3; have e4 : u2.cell? ⟨g0, 4, none⟩ = some (.slice A n c) := HX2.out.b.cell 4; cases g)
      | (go_at_call 11; (with_reducible refine (HRI.out _ HX2.out.l).mono ?_); rintro e u3 ⟨rfl, hb⟩; have HX2 := Lib.hid (HX2.out.on hb); clear hb))
    all_goals go_ret
    all_goals exact ⟨rfl, HX2.out.l⟩
  | true =>
    go_upto_region 6 with (first
      | (go_at_call 9; (with_reducible refine (HGR.out _ HX1.out.l).mono ?_); rintro e u2 ⟨g, rfl, hsm, hb⟩; have HX2 := Lib.hid (HX1.out.on hb); clear hb; clear e0 e1 e2 e3 e4; have e0 : u2.cell? ⟨g0, 0, none⟩ = some (.int .i64 a0) := HX2.out.b.cell 0; have e1 : u2.cell? ⟨g0, 1, none⟩ = some (.int .i64 a1) := HX2.out.b.cell 1; have e2 : u2.cell? ⟨g0, 2, none⟩ = some (.int .i64 a2) := HX2.out.b.cell 2; have e3 : u2.cell? ⟨g0, 3, none⟩ = some (.int .i64 a3) := HX2.out.b.cell 3; have e4 : u2.cell? ⟨g0, 4, none⟩ = some (.slice A n c) := HX2.out.b.cell 4; have HSM := Lib.hid hsm; clear hsm; cases g)
      | (go_at_call 11; (with_reducible refine (HRI.out _ HX2.out.l).mono ?_); rintro e u3 ⟨rfl, hb⟩; have HX3 := Lib.hid (HX2.out.on hb); clear hb; clear e0 e1 e2 e3 e4; have e0 : u3.cell? ⟨g0, 0, none⟩ = some (.int .i64 a0) := HX3.out.b.cell 0; have e1 : u3.cell? ⟨g0, 1, none⟩ = some (.int .i64 a1) := HX3.out.b.cell 1; have e2 : u3.cell? ⟨g0, 2, none⟩ = some (.int .i64 a2) := HX3.out.b.cell 2; have e3 : u3.cell? ⟨g0, 3, none⟩ = some (.int .i64 a3) := HX3.out.b.cell 3; have e4 : u3.cell? ⟨g0, 4, none⟩ = some (.slice A n c) := HX3.out.b.cell 4))
    any_goals (go_ret; exact ⟨rfl, HX2.out.l⟩)
    have HSG := Lib.hid (show SmG ⟨a0, a1, a2, a3, ts, A, c⟩ from by first | exact HSM.out trivial | exact HSM.out rfl)
    have HGE := Lib.hid (show w.heap.size ≤ u3.heap.size from HX3.out.l.size)
    have HG3 := Lib.hid (show g0 < u3.heap.size from HX3.out.b.lt)
    refine gen_world (fun u => Bx w u3.heap.size 24 #[.int .i64 a0, .int .i64 a1, .int .i64 0, .int .i64 a3, .slice A n c] u ∧ Bx w g0 24 #[.int .i64 a0, .int .i64 a1, .int .i64 a2, .int .i64 a3, .slice A n c] u) ?_ (fun vA hvA => ?_)
    · have n1 := (Bk.new u3 24 #[.int .i64 a0, .int .i64 a1, .int .i64 a2, .int .i64 a3, .slice A n c]).set 2 (.int .i64 0)
      simp only [List.setIfInBounds_toArray, List.set_cons_zero, List.set_cons_succ] at n1
      have l1 := (HX3.out.l.alloc HGE.out (.cells #[.int .i64 a0, .int .i64 a1, .int .i64 a2, .int .i64 a3, .slice A n c] 24)).setCell (p := ⟨u3.heap.size, 2, none⟩) HGE.out (.int .i64 0)
      first
        | exact ⟨⟨n1, l1⟩, ⟨(HX3.out.b.alloc _).far (p := ⟨u3.heap.size, 2, none⟩) (by have := HG3.out; show g0 ≠ u3.heap.size; omega) _, l1⟩⟩
        | exact ⟨⟨Bk.new _ _ _, HX3.out.l.alloc HGE.out _⟩, HX3.out.alloc1 _⟩
    have HXA0 := Lib.hid hvA.1
    have HXC0 := Lib.hid hvA.2
    have HGA := Lib.hid (show u3.heap.size < vA.heap.size from hvA.1.b.lt)
    have HGC := Lib.hid (show g0 < vA.heap.size from hvA.2.b.lt)
    have HGV := Lib.hid hvA.1.l.size
    clear hvA e0 e1 e2 e3 e4
    have e0 : vA.cell? ⟨g0, 0, none⟩ = some (.int .i64 a0) := HXC0.out.b.cell 0
    have e1 : vA.cell? ⟨g0, 1, none⟩ = some (.int .i64 a1) := HXC0.out.b.cell 1
    have e2 : vA.cell? ⟨g0, 2, none⟩ = some (.int .i64 a2) := HXC0.out.b.cell 2
    have e3 : vA.cell? ⟨g0, 3, none⟩ = some (.int .i64 a3) := HXC0.out.b.cell 3
    have e4 : vA.cell? ⟨g0, 4, none⟩ = some (.slice A n c) := HXC0.out.b.cell 4
    go_upto_region 8 with fail
    refine gen_world (fun u => Bx w u3.heap.size 24 #[.int .i64 a0, .int .i64 a1, .int .i64 0, .int .i64 a3, .slice A n c] u ∧ Bx w vA.heap.size 24 #[.int .i64 1073741825, .int .i64 a1, .int .i64 a2, .int .i64 a3, .slice A n c] u ∧ Bx w g0 24 #[.int .i64 a0, .int .i64 a1, .int .i64 a2, .int .i64 a3, .slice A n c] u) ?_ (fun v0 hv0 => ?_)
    · have n1 := (Bk.new vA 24 #[.int .i64 a0, .int .i64 a1, .int .i64 a2, .int .i64 a3, .slice A n c]).set 0 (.int .i64 1073741825)
      simp only [List.setIfInBounds_toArray, List.set_cons_zero, List.set_cons_succ] at n1
      have l1 := (HXA0.out.l.alloc HGV.out (.cells #[.int .i64 a0, .int .i64 a1, .int .i64 a2, .int .i64 a3, .slice A n c] 24)).setCell (p := ⟨vA.heap.size, 0, none⟩) HGV.out (.int .i64 1073741825)
      first
        | exact ⟨⟨(HXA0.out.b.alloc _).far (p := ⟨vA.heap.size, 0, none⟩) (by have := HGA.out; show u3.heap.size ≠ vA.heap.size; omega) _, l1⟩, ⟨n1, l1⟩, ⟨(HXC0.out.b.alloc _).far (p := ⟨vA.heap.size, 0, none⟩) (by have := HGC.out; show g0 ≠ vA.heap.size; omega) _, l1⟩⟩
        | exact ⟨HXA0.out.alloc1 _, ⟨Bk.new _ _ _, HXA0.out.l.alloc HGV.out _⟩, HXC0.out.alloc1 _⟩
    have HXA := Lib.hid hv0.1
    have HXB := Lib.hid hv0.2.1
    have HXC := Lib.hid hv0.2.2
    obtain ⟨gb, hgb⟩ : ∃ g, vA.heap.size = g := ⟨_, rfl⟩
    rw [hgb] at HXB ⊢
    obtain ⟨ga, hga⟩ : ∃ g, u3.heap.size = g := ⟨_, rfl⟩
    rw [hga] at HXA ⊢
    clear hv0 hga hgb HX2 HX3 HSM HRI HGR HXA0 HXC0 HGA HGC HGV HG3 e0 e1 e2 e3 e4
    have ea0 : v0.cell? ⟨ga, 0, none⟩ = some (.int .i64 a0) := HXA.out.b.cell 0
    have ea1 : v0.cell? ⟨ga, 1, none⟩ = some (.int .i64 a1) := HXA.out.b.cell 1
    have ea2 : v0.cell? ⟨ga, 2, none⟩ = some (.int .i64 0) := HXA.out.b.cell 2
    have ea3 : v0.cell? ⟨ga, 3, none⟩ = some (.int .i64 a3) := HXA.out.b.cell 3
    have ea4 : v0.cell? ⟨ga, 4, none⟩ = some (.slice A n c) := HXA.out.b.cell 4
    have eb0 : v0.cell? ⟨gb, 0, none⟩ = some (.int .i64 1073741825) := HXB.out.b.cell 0
    have eb1 : v0.cell? ⟨gb, 1, none⟩ = some (.int .i64 a1) := HXB.out.b.cell 1
    have eb2 : v0.cell? ⟨gb, 2, none⟩ = some (.int .i64 a2) := HXB.out.b.cell 2
    have eb3 : v0.cell? ⟨gb, 3, none⟩ = some (.int .i64 a3) := HXB.out.b.cell 3
    have eb4 : v0.cell? ⟨gb, 4, none⟩ = some (.slice A n c) := HXB.out.b.cell 4
    have ec0 : v0.cell? ⟨g0, 0, none⟩ = some (.int .i64 a0) := HXC.out.b.cell 0
    have ec1 : v0.cell? ⟨g0, 1, none⟩ = some (.int .i64 a1) := HXC.out.b.cell 1
    have ec2 : v0.cell? ⟨g0, 2, none⟩ = some (.int .i64 a2) := HXC.out.b.cell 2
    have ec3 : v0.cell? ⟨g0, 3, none⟩ = some (.int .i64 a3) := HXC.out.b.cell 3
    have ec4 : v0.cell? ⟨g0, 4, none⟩ = some (.slice A n c) := HXC.out.b.cell 4
    by_cases hn0 : n = 0
    · have hz : ((n : Int) == 0) = true := by rw [beq_iff_eq]; omega
      clear hn0
      go_wp2_with (first 
      | (go_at_call 11; (with_reducible refine (HRA.out _ HXA.out.l).mono ?_); rintro e y ⟨rfl, hb⟩; have HXA := Lib.hid (HXA.out.on hb); have HXB := Lib.hid (HXB.out.on hb); have HXC := Lib.hid (HXC.out.on hb); clear hb; clear ea0 ea1 ea2 ea3 ea4 eb0 eb1 eb2 eb3 eb4 ec0 ec1 ec2 ec3 ec4; have ea0 : y.cell? ⟨ga, 0, none⟩ = some (.int .i64 a0) := HXA.out.b.cell 0; have ea1 : y.cell? ⟨ga, 1, none⟩ = some (.int .i64 a1) := HXA.out.b.cell 1; have ea2 : y.cell? ⟨ga, 2, none⟩ = some (.int .i64 0) := HXA.out.b.cell 2; have ea3 : y.cell? ⟨ga, 3, none⟩ = some (.int .i64 a3) := HXA.out.b.cell 3; have ea4 : y.cell? ⟨ga, 4, none⟩ = some (.slice A n c) := HXA.out.b.cell 4; have eb0 : y.cell? ⟨gb, 0, none⟩ = some (.int .i64 1073741825) := HXB.out.b.cell 0; have eb1 : y.cell? ⟨gb, 1, none⟩ = some (.int .i64 a1) := HXB.out.b.cell 1; have eb2 : y.cell? ⟨gb, 2, none⟩ = some (.int .i64 a2) := HXB.out.b.cell 2; have eb3 : y.cell? ⟨gb, 3, none⟩ = some (.int .i64 a3) := HXB.out.b.cell 3; have eb4 : y.cell? ⟨gb, 4, none⟩ = some (.slice A n c) := HXB.out.b.cell 4; have ec0 : y.cell? ⟨g0, 0, none⟩ = some (.int .i64 a0) := HXC.out.b.cell 0; have ec1 : y.cell? ⟨g0, 1, none⟩ = some (.int .i64 a1) := HXC.out.b.cell 1; have ec2 : y.cell? ⟨g0, 2, none⟩ = some (.int .i64 a2) := HXC.out.b.cell 2; have ec3 : y.cell? ⟨g0, 3, none⟩ = some (.int .i64 a3) := HXC.out.b.cell 3; have ec4 : y.cell? ⟨g0, 4, none⟩ = some (.slice A n c) := HXC.out.b.cell 4)
      | (go_at_call 11; (with_reducible refine (HRB.out _ HXB.out.l).mono ?_); rintro e y ⟨rfl, hb⟩; have HXA := Lib.hid (HXA.out.on hb); have HXB := Lib.hid (HXB.out.on hb); have HXC := Lib.hid (HXC.out.on hb); clear hb; clear ea0 ea1 ea2 ea3 ea4 eb0 eb1 eb2 eb3 eb4 ec0 ec1 ec2 ec3 ec4; have ea0 : y.cell? ⟨ga, 0, none⟩ = some (.int .i64 a0) := HXA.out.b.cell 0; have ea1 : y.cell? ⟨ga, 1, none⟩ = some (.int .i64 a1) := HXA.out.b.cell 1; have ea2 : y.cell? ⟨ga, 2, none⟩ = some (.int .i64 0) := HXA.out.b.cell 2; have ea3 : y.cell? ⟨ga, 3, none⟩ = some (.int .i64 a3) := HXA.out.b.cell 3; have ea4 : y.cell? ⟨ga, 4, none⟩ = some (.slice A n c) := HXA.out.b.cell 4; have eb0 : y.cell? ⟨gb, 0, none⟩ = some (.int .i64 1073741825) := HXB.out.b.cell 0; have eb1 : y.cell? ⟨gb, 1, none⟩ = some (.int .i64 a1) := HXB.out.b.cell 1; have eb2 : y.cell? ⟨gb, 2, none⟩ = some (.int .i64 a2) := HXB.out.b.cell 2; have eb3 : y.cell? ⟨gb, 3, none⟩ = some (.int .i64 a3) := HXB.out.b.cell 3; have eb4 : y.cell? ⟨gb, 4, none⟩ = some (.slice A n c) := HXB.out.b.cell 4; have ec0 : y.cell? ⟨g0, 0, none⟩ = some (.int .i64 a0) := HXC.out.b.cell 0; have ec1 : y.cell? ⟨g0, 1, none⟩ = some (.int .i64 a1) := HXC.out.b.cell 1; have ec2 : y.cell? ⟨g0, 2, none⟩ = some (.int .i64 a2) := HXC.out.b.cell 2; have ec3 : y.cell? ⟨g0, 3, none⟩ = some (.int .i64 a3) := HXC.out.b.cell 3; have ec4 : y.cell? ⟨g0, 4, none⟩ = some (.slice A n c) := HXC.out.b.cell 4))
      go_ret
      exact ⟨rfl, HXA.out.l⟩
    have hz : ((n : Int) == 0) = false := by rw [beq_eq_false_iff_ne]; omega
    have hnp : 0 < n := by omega
    obtain ⟨k, hk⟩ : ∃ k, v % n = k := ⟨_, rfl⟩
    have hkn : k < n := by rw [← hk]; exact Nat.mod_lt _ hnp
    have z1 : (v : Int) % (n : Int) = (k : Int) := by rw [← hk]; exact (Int.natCast_emod v n).symm
    have z2 : (v : Int).tmod (n : Int) = (k : Int) := by rw [Int.tmod_eq_emod_of_nonneg (by omega)]; exact z1
    have hkn2 : (k : Int) < (n : Int) := by omega
    clear hk z1
    obtain ⟨b, o, y1, rfl, hy, h1, hcl⟩ := HRC.out.r.at5 k (by rw [HN.out]; exact hkn)
    have HY := Lib.hid hy
    have HCL := Lib.hid hcl
    have HN3 := Lib.hid (show n < 3000 by have := HSG.out.n; dsimp only at this; rw [HN.out] at this; exact this)
    obtain ⟨⟨yn, ya, yb, nl, kl⟩, An, cn, Ak, ck⟩ := y1
    dsimp only at hcl
    clear hy h1 hcl
    go_upto_region 12 with (first 
      | (go_at_call 11; (with_reducible refine (HRA.out _ HXA.out.l).mono ?_); rintro e y ⟨rfl, hb⟩; have HXA := Lib.hid (HXA.out.on hb); have HXB := Lib.hid (HXB.out.on hb); have HXC := Lib.hid (HXC.out.on hb); clear hb; clear ea0 ea1 ea2 ea3 ea4 eb0 eb1 eb2 eb3 eb4 ec0 ec1 ec2 ec3 ec4; have ea0 : y.cell? ⟨ga, 0, none⟩ = some (.int .i64 a0) := HXA.out.b.cell 0; have ea1 : y.cell? ⟨ga, 1, none⟩ = some (.int .i64 a1) := HXA.out.b.cell 1; have ea2 : y.cell? ⟨ga, 2, none⟩ = some (.int .i64 0) := HXA.out.b.cell 2; have ea3 : y.cell? ⟨ga, 3, none⟩ = some (.int .i64 a3) := HXA.out.b.cell 3; have ea4 : y.cell? ⟨ga, 4, none⟩ = some (.slice (some ⟨b, o, none⟩) n c) := HXA.out.b.cell 4; have eb0 : y.cell? ⟨gb, 0, none⟩ = some (.int .i64 1073741825) := HXB.out.b.cell 0; have eb1 : y.cell? ⟨gb, 1, none⟩ = some (.int .i64 a1) := HXB.out.b.cell 1; have eb2 : y.cell? ⟨gb, 2, none⟩ = some (.int .i64 a2) := HXB.out.b.cell 2; have eb3 : y.cell? ⟨gb, 3, none⟩ = some (.int .i64 a3) := HXB.out.b.cell 3; have eb4 : y.cell? ⟨gb, 4, none⟩ = some (.slice (some ⟨b, o, none⟩) n c) := HXB.out.b.cell 4; have ec0 : y.cell? ⟨g0, 0, none⟩ = some (.int .i64 a0) := HXC.out.b.cell 0; have ec1 : y.cell? ⟨g0, 1, none⟩ = some (.int .i64 a1) := HXC.out.b.cell 1; have ec2 : y.cell? ⟨g0, 2, none⟩ = some (.int .i64 a2) := HXC.out.b.cell 2; have ec3 : y.cell? ⟨g0, 3, none⟩ = some (.int .i64 a3) := HXC.out.b.cell 3; have ec4 : y.cell? ⟨g0, 4, none⟩ = some (.slice (some ⟨b, o, none⟩) n c) := HXC.out.b.cell 4)
      | (go_at_call 11; (with_reducible refine (HRB.out _ HXB.out.l).mono ?_); rintro e y ⟨rfl, hb⟩; have HXA := Lib.hid (HXA.out.on hb); have HXB := Lib.hid (HXB.out.on hb); have HXC := Lib.hid (HXC.out.on hb); clear hb; clear ea0 ea1 ea2 ea3 ea4 eb0 eb1 eb2 eb3 eb4 ec0 ec1 ec2 ec3 ec4; have ea0 : y.cell? ⟨ga, 0, none⟩ = some (.int .i64 a0) := HXA.out.b.cell 0; have ea1 : y.cell? ⟨ga, 1, none⟩ = some (.int .i64 a1) := HXA.out.b.cell 1; have ea2 : y.cell? ⟨ga, 2, none⟩ = some (.int .i64 0) := HXA.out.b.cell 2; have ea3 : y.cell? ⟨ga, 3, none⟩ = some (.int .i64 a3) := HXA.out.b.cell 3; have ea4 : y.cell? ⟨ga, 4, none⟩ = some (.slice (some ⟨b, o, none⟩) n c) := HXA.out.b.cell 4; have eb0 : y.cell? ⟨gb, 0, none⟩ = some (.int .i64 1073741825) := HXB.out.b.cell 0; have eb1 : y.cell? ⟨gb, 1, none⟩ = some (.int .i64 a1) := HXB.out.b.cell 1; have eb2 : y.cell? ⟨gb, 2, none⟩ = some (.int .i64 a2) := HXB.out.b.cell 2; have eb3 : y.cell? ⟨gb, 3, none⟩ = some (.int .i64 a3) := HXB.out.b.cell 3; have eb4 : y.cell? ⟨gb, 4, none⟩ = some (.slice (some ⟨b, o, none⟩) n c) := HXB.out.b.cell 4; have ec0 : y.cell? ⟨g0, 0, none⟩ = some (.int .i64 a0) := HXC.out.b.cell 0; have ec1 : y.cell? ⟨g0, 1, none⟩ = some (.int .i64 a1) := HXC.out.b.cell 1; have ec2 : y.cell? ⟨g0, 2, none⟩ = some (.int .i64 a2) := HXC.out.b.cell 2; have ec3 : y.cell? ⟨g0, 3, none⟩ = some (.int .i64 a3) := HXC.out.b.cell 3; have ec4 : y.cell? ⟨g0, 4, none⟩ = some (.slice (some ⟨b, o, none⟩) n c) := HXC.out.b.cell 4))
    have HYS := Lib.hid HXC.out.l.size
    have HXD := Lib.hid (show Bx w y.heap.size 24 #[.int .i64 a0, .int .i64 a1, .int .i64 a2, .int .i64 a3, .slice (some ⟨b, o, none⟩) n c] (y.alloc (.cells #[.int .i64 a0, .int .i64 a1, .int .i64 a2, .int .i64 a3, .slice (some ⟨b, o, none⟩) n c] 24)) from ⟨Bk.new y _ _, HXC.out.l.alloc HYS.out _⟩)
    have HXE := Lib.hid (show Bx w g0 24 #[.int .i64 a0, .int .i64 a1, .int .i64 a2, .int .i64 a3, .slice (some ⟨b, o, none⟩) n c] (y.alloc (.cells #[.int .i64 a0, .int .i64 a1, .int .i64 a2, .int .i64 a3, .slice (some ⟨b, o, none⟩) n c] 24)) from HXC.out.alloc1 _)
    have HGD := Lib.hid (show g0 < y.heap.size from HXC.out.b.lt)
    have HSZ := Lib.hid (World.size_alloc y (.cells #[.int .i64 a0, .int .i64 a1, .int .i64 a2, .int .i64 a3, .slice (some ⟨b, o, none⟩) n c] 24))
    obtain ⟨v3, hv3⟩ : ∃ v, y.alloc (.cells #[.int .i64 a0, .int .i64 a1, .int .i64 a2, .int .i64 a3, .slice (some ⟨b, o, none⟩) n c] 24) = v := ⟨_, rfl⟩
    rw [hv3] at HXD HXE HSZ ⊢
    obtain ⟨gd, hgd⟩ : ∃ g, y.heap.size = g := ⟨_, rfl⟩
    rw [hgd] at HXD HGD HSZ HYS ⊢
    clear hv3 hgd HXA HXB HXC ea0 ea1 ea2 ea3 ea4 eb0 eb1 eb2 eb3 eb4 ec0 ec1 ec2 ec3 ec4
    try simp only [List.cons_append, List.nil_append]
    refine wp_region_held_drew (S := fun wz => Below gd v3 wz) (by kernel_rfl) ((Below.refl _ _).drew) (fun hHeld => ?_)
    refine take_at (some 55) (i := 1) (v := ?_) rfl rfl (by kernel_rfl) (by kernel_rfl) (by kernel_rfl) (fun _ _ _ h => h) (Or.inl ⟨by kernel_rfl, ?_⟩) hHeld ?_
    rotate_left
    · intro wz hSw; have hbw := HXE.out.l.trans (hSw.mono HYS.out); have q4 : wz.cell? ⟨g0, 4, none⟩ = some (.slice (some ⟨b, o, none⟩) n c) := (HXE.out.b.below hSw HGD.out).cell 4; obtain ⟨t0, t1, t2, t3, t4⟩ := HCL.out wz hbw; (try dsimp only at t0 t1 t2 t3 t4); go_simp; try (with_reducible rfl)
    try simp only [Act.put, List.setIfInBounds_toArray, List.set_cons_zero, List.set_cons_succ, List.getElem_toArray, List.getElem_cons_succ, List.getElem_cons_zero]
    refine take_at (some 56) (i := 2) (v := ?_) rfl rfl (by kernel_rfl) (by kernel_rfl) (by kernel_rfl) (fun _ _ _ h => h) (Or.inl ⟨by kernel_rfl, ?_⟩) hHeld ?_
    rotate_left
    · intro wz hSw; have hbw := HXE.out.l.trans (hSw.mono HYS.out); have q4 : wz.cell? ⟨g0, 4, none⟩ = some (.slice (some ⟨b, o, none⟩) n c) := (HXE.out.b.below hSw HGD.out).cell 4; obtain ⟨t0, t1, t2, t3, t4⟩ := HCL.out wz hbw; (try dsimp only at t0 t1 t2 t3 t4); go_simp; try (with_reducible rfl)
    try simp only [Act.put, List.setIfInBounds_toArray, List.set_cons_zero, List.set_cons_succ, List.getElem_toArray, List.getElem_cons_succ, List.getElem_cons_zero]
    refine take_at (some 58) (i := 4) (v := ?_) rfl rfl (by kernel_rfl) (by kernel_rfl) (by kernel_rfl) (fun _ _ _ h => h) (Or.inl ⟨by kernel_rfl, ?_⟩) hHeld ?_
    rotate_left
    · intro wz hSw; have hbw := HXE.out.l.trans (hSw.mono HYS.out); have q4 : wz.cell? ⟨g0, 4, none⟩ = some (.slice (some ⟨b, o, none⟩) n c) := (HXE.out.b.below hSw HGD.out).cell 4; obtain ⟨t0, t1, t2, t3, t4⟩ := HCL.out wz hbw; (try dsimp only at t0 t1 t2 t3 t4); go_simp; try (with_reducible rfl)
    try simp only [Act.put, List.setIfInBounds_toArray, List.set_cons_zero, List.set_cons_succ, List.getElem_toArray, List.getElem_cons_succ, List.getElem_cons_zero]
    refine take_at (some 59) (i := 5) (v := ?_) rfl rfl (by kernel_rfl) (by kernel_rfl) (by kernel_rfl) (fun _ _ _ h => h) (Or.inl ⟨by kernel_rfl, ?_⟩) hHeld ?_
    rotate_left
    · intro wz hSw; have hbw := HXE.out.l.trans (hSw.mono HYS.out); have q4 : wz.cell? ⟨g0, 4, none⟩ = some (.slice (some ⟨b, o, none⟩) n c) := (HXE.out.b.below hSw HGD.out).cell 4; obtain ⟨t0, t1, t2, t3, t4⟩ := HCL.out wz hbw; (try dsimp only at t0 t1 t2 t3 t4); go_simp; try (with_reducible rfl)
    try simp only [Act.put, List.setIfInBounds_toArray, List.set_cons_zero, List.set_cons_succ, List.getElem_toArray, List.getElem_cons_succ, List.getElem_cons_zero]
    refine take_at (some 60) (i := 6) (v := ?_) rfl rfl (by kernel_rfl) (by kernel_rfl) (by kernel_rfl) (fun _ _ _ h => h) (Or.inl ⟨by kernel_rfl, ?_⟩) hHeld ?_
    rotate_left
    · intro wz hSw; have hbw := HXE.out.l.trans (hSw.mono HYS.out); have q4 : wz.cell? ⟨g0, 4, none⟩ = some (.slice (some ⟨b, o, none⟩) n c) := (HXE.out.b.below hSw HGD.out).cell 4; obtain ⟨t0, t1, t2, t3, t4⟩ := HCL.out wz hbw; (try dsimp only at t0 t1 t2 t3 t4); go_simp; try (with_reducible rfl)
    try simp only [Act.put, List.setIfInBounds_toArray, List.set_cons_zero, List.set_cons_succ, List.getElem_toArray, List.getElem_cons_succ, List.getElem_cons_zero]
    refine take_at (some 61) (i := 7) (v := ?_) rfl rfl (by kernel_rfl) (by kernel_rfl) (by kernel_rfl) (fun _ _ _ h => h) (Or.inl ⟨by kernel_rfl, ?_⟩) hHeld ?_
    rotate_left
    · intro wz hSw; have hbw := HXE.out.l.trans (hSw.mono HYS.out); have q4 : wz.cell? ⟨g0, 4, none⟩ = some (.slice (some ⟨b, o, none⟩) n c) := (HXE.out.b.below hSw HGD.out).cell 4; obtain ⟨t0, t1, t2, t3, t4⟩ := HCL.out wz hbw; (try dsimp only at t0 t1 t2 t3 t4); go_simp; try (with_reducible rfl)
    try simp only [Act.put, List.setIfInBounds_toArray, List.set_cons_zero, List.set_cons_succ, List.getElem_toArray, List.getElem_cons_succ, List.getElem_cons_zero]
    refine take_at (some 62) (i := 8) (v := ?_) rfl rfl (by kernel_rfl) (by kernel_rfl) (by kernel_rfl) (fun _ _ _ h => h) (Or.inl ⟨by kernel_rfl, ?_⟩) hHeld ?_
    rotate_left
    · intro wz hSw; have hbw := HXE.out.l.trans (hSw.mono HYS.out); have q4 : wz.cell? ⟨g0, 4, none⟩ = some (.slice (some ⟨b, o, none⟩) n c) := (HXE.out.b.below hSw HGD.out).cell 4; obtain ⟨t0, t1, t2, t3, t4⟩ := HCL.out wz hbw; (try dsimp only at t0 t1 t2 t3 t4); go_simp; try (with_reducible rfl)
    try simp only [Act.put, List.setIfInBounds_toArray, List.set_cons_zero, List.set_cons_succ, List.getElem_toArray, List.getElem_cons_succ, List.getElem_cons_zero]
    have HB0 := Lib.hid (show gd ≤ v3.heap.size by have := HSZ.out; omega)
    have HBD := Lib.hid (show gd < v3.heap.size by have := HSZ.out; omega)
    refine wpAnyH_ready (rs := [0, 9]) (by kernel_rfl) (by simp) (AllReadyH.cons rfl (fun K hK => ?_) (AllReadyH.cons rfl (fun K hK => ?_) AllReadyH.nil))
    · rw [if_pos (by kernel_rfl)]
      go_simp
      refine hK.out _ _ ((Below.refl _ _).drew.alloc HB0.out _) (fun hHeld => ?_)
      try simp only [Act.put, List.setIfInBounds_toArray, List.set_cons_zero, List.set_cons_succ, List.getElem_toArray, List.getElem_cons_succ, List.getElem_cons_zero]
      refine gen_anyC (fun u => Below gd v3 u ∧ Bk u gd 24 #[.int .i64 a0, .int .i64 a1, .int .i64 a2, .int .i64 a3, .slice (some ⟨b, o, none⟩) n c] ∧ OT u v3.heap.size (some ⟨v3.heap.size, 0, none⟩) 0 []) ⟨hHeld, (HXD.out.b.drew).alloc _, Ow.empty v3.drew v3.heap.size (Nat.le_refl _)⟩ (fun x1 hx1 => ?_)
      clear hHeld
      refine wpAnyH_ready (rs := [3, 9]) (by kernel_rfl) (by simp) (AllReadyH.cons rfl (fun K hK => ?_) (AllReadyH.cons rfl (fun K hK => ?_) AllReadyH.nil))
      · rw [if_pos (by kernel_rfl)]
        refine op_rows roT (.tmp 54) (.tmp 56) rfl 0 rfl rfl hx1.2.2 ts _ n c rfl HN.out HNIL.out (HRC.out.r.r.on (HXE.out.l.trans (hx1.1.mono HYS.out))) (by have := HN3.out; omega) hx1.1.size n (Nat.zero_add _) ?_
        intro A1 c1 x2 hox2 hgx2 hbx2
        rw [List.nil_append] at hox2
        refine hK.out _ _ (hx1.1.trans (hbx2.mono HB0.out)) (fun hHeld => ?_)
        try simp only [Act.put, List.setIfInBounds_toArray, List.set_cons_zero, List.set_cons_succ, List.getElem_toArray, List.getElem_cons_succ, List.getElem_cons_zero]
        refine wpAnyH_ready (rs := [9]) (by kernel_rfl) (by simp) (AllReadyH.cons rfl (fun K hK => ?_) AllReadyH.nil)
        rw [if_pos (by kernel_rfl)]
        go_simp
        refine hK.out _ _ ((hx1.1.trans (hbx2.mono HB0.out)).alloc (Nat.le_trans HB0.out (hx1.1.trans (hbx2.mono HB0.out)).size) _) (fun hHeld => ?_)
        try simp only [Act.put, List.setIfInBounds_toArray, List.set_cons_zero, List.set_cons_succ, List.getElem_toArray, List.getElem_cons_succ, List.getElem_cons_zero]
        refine gen_anyC (fun u => Below gd v3 u ∧ Bk u gd 24 #[.int .i64 a0, .int .i64 a1, .int .i64 a2, .int .i64 a3, .slice (some ⟨b, o, none⟩) n c] ∧ Bk u x2.heap.size 38 #[.string yn, .int .i64 ya, .int .i64 yb, .slice An nl.length cn, .slice Ak kl.length ck] ∧ OT u v3.heap.size A1 c1 ts) ⟨hHeld, (hx1.2.1.below hbx2 HBD.out).alloc _, Bk.new x2 _ _, hox2.on ((Below.refl _ _).alloc (Nat.le_refl _) _)⟩ (fun x3 hx3 => ?_)
        clear hHeld
        refine wpAnyH_ready (rs := [10]) (by kernel_rfl) (by simp) (AllReadyH.cons rfl (fun K hK => ?_) AllReadyH.nil)
        rw [if_pos (by kernel_rfl)]
        refine op_rows roT (.tmp 57) (.tmp 63) rfl n rfl HN.out hx3.2.2.2 [(⟨⟨yn, ya, yb, nl, kl⟩, An, cn, Ak, ck⟩ : Tv)] (some ⟨x2.heap.size, 0, none⟩) 1 1 rfl rfl (fun h => by cases h) (Rw.bk hx3.2.2.1) (by have := HN3.out; omega) hx3.1.size (n + 1) rfl ?_
        intro A2 c2 x4 ho4 hg4 hb4
        have hbl4 := hx3.1.trans (hb4.mono HB0.out)
        have hgd4 := (hx3.2.1).below hb4 HBD.out
        have d4 : x4.cell? ⟨gd, 4, none⟩ = some (.slice (some ⟨b, o, none⟩) n c) := hgd4.cell 4
        have f4 := hgd4.frozen 4
        refine hK.out _ _ hbl4 (fun hHeld => ?_)
        try simp only [Act.put, List.setIfInBounds_toArray, List.set_cons_zero, List.set_cons_succ, List.getElem_toArray, List.getElem_cons_succ, List.getElem_cons_zero]
        refine take_at (some 65) (i := 11) (v := ?_) rfl rfl (by kernel_rfl) (by kernel_rfl) (by kernel_rfl) (fun _ _ _ h => h) (Or.inl ⟨by kernel_rfl, ?_⟩) hHeld ?_
        rotate_left
        · intro wz hSw; go_simp; try (with_reducible rfl)
        try simp only [Act.put, List.setIfInBounds_toArray, List.set_cons_zero, List.set_cons_succ, List.getElem_toArray, List.getElem_cons_succ, List.getElem_cons_zero]
        refine wpAnyH_ready (rs := [12]) (by kernel_rfl) (by simp) (AllReadyH.cons rfl (fun K hK => ?_) AllReadyH.nil)
        rw [if_pos (by kernel_rfl)]
        go_simp
        refine hK.out _ _ (hbl4.setCell (p := ⟨gd, 4, none⟩) (Nat.le_refl _) _) (fun hHeld => ?_)
        try simp only [Act.put, List.setIfInBounds_toArray, List.set_cons_zero, List.set_cons_succ, List.getElem_toArray, List.getElem_cons_succ, List.getElem_cons_zero]
        refine wpAnyH_done (by kernel_rfl) ?_ _
        have HBW4 := Lib.hid (show Below w.heap.size w (x4.setCell ⟨gd, 4, none⟩ (.slice A2 (n + 1) c2)) from (HXE.out.l.trans (hbl4.mono HYS.out)).setCell (p := ⟨gd, 4, none⟩) HYS.out _)
        refine gen_qC (fun u => Bk u gd 24 #[.int .i64 a0, .int .i64 a1, .int .i64 a2, .int .i64 a3, .slice A2 (n + 1) c2] ∧ RC u ⟨a0, a1, a2, a3, ts ++ [(⟨⟨yn, ya, yb, nl, kl⟩, An, cn, Ak, ck⟩ : Tv)], A2, c2⟩ ∧ Below w.heap.size w u ∧ Bk u g0 24 #[.int .i64 a0, .int .i64 a1, .int .i64 a2, .int .i64 a3, .slice (some ⟨b, o, none⟩) n c]) ⟨?_, ?_, HBW4.out, ?_⟩ (fun y5 hy5 => ?_)
        · have := hgd4.set 4 (.slice A2 (n + 1) c2)
          simpa only [List.setIfInBounds_toArray, List.set_cons_zero, List.set_cons_succ] using this
        · have ho5 := ho4.set (p := ⟨gd, 4, none⟩) HBD.out (.slice A2 (n + 1) c2)
          refine ⟨⟨ho5.rw_ tcs_size, fun yy hyy => ?_⟩, ho5.fit⟩
          rcases List.mem_append.1 hyy with hyy | hyy
          · exact (HRC.out.r.each yy hyy).on HBW4.out
          · rw [List.mem_singleton.1 hyy]; exact (HRC.out.r.each _ (List.mem_of_getElem? HY.out)).on HBW4.out
        · exact (HXE.out.b.below hbl4 HGD.out).far (p := ⟨gd, 4, none⟩) (by have := HGD.out; show g0 ≠ gd; omega) _
        clear hHeld hbl4 hgd4 ho4 hg4 hb4 d4 f4 HBW4
        obtain ⟨yd, yr, yl, yc⟩ := hy5
        have HYD := Lib.hid yd
        have HYR := Lib.hid yr
        have HYL := Lib.hid yl
        have HYC := Lib.hid yc
        clear yd yr yl yc
        have ec0 : y5.cell? ⟨g0, 0, none⟩ = some (.int .i64 a0) := HYC.out.cell 0
        have ec1 : y5.cell? ⟨g0, 1, none⟩ = some (.int .i64 a1) := HYC.out.cell 1
        have ec2 : y5.cell? ⟨g0, 2, none⟩ = some (.int .i64 a2) := HYC.out.cell 2
        have ec3 : y5.cell? ⟨g0, 3, none⟩ = some (.int .i64 a3) := HYC.out.cell 3
        have ec4 : y5.cell? ⟨g0, 4, none⟩ = some (.slice (some ⟨b, o, none⟩) n c) := HYC.out.cell 4
        go_upto_region 14 with fail
        have HGE5 := Lib.hid (Bk.new y5 24 #[.int .i64 a0, .int .i64 a1, .int .i64 a2, .int .i64 a3, .slice (some ⟨b, o, none⟩) n c])
        have HC6 := Lib.hid (HYC.out.alloc (.cells #[.int .i64 a0, .int .i64 a1, .int .i64 a2, .int .i64 a3, .slice (some ⟨b, o, none⟩) n c] 24))
        have HB6 := Lib.hid (show Below y5.heap.size y5 (y5.alloc (.cells #[.int .i64 a0, .int .i64 a1, .int .i64 a2, .int .i64 a3, .slice (some ⟨b, o, none⟩) n c] 24)) from (Below.refl _ _).alloc (Nat.le_refl _) _)
        have hsz6 := World.size_alloc y5 (.cells #[.int .i64 a0, .int .i64 a1, .int .i64 a2, .int .i64 a3, .slice (some ⟨b, o, none⟩) n c] 24)
        obtain ⟨y6, hy6⟩ : ∃ v, y5.alloc (.cells #[.int .i64 a0, .int .i64 a1, .int .i64 a2, .int .i64 a3, .slice (some ⟨b, o, none⟩) n c] 24) = v := ⟨_, rfl⟩
        rw [hy6] at HGE5 HC6 HB6 hsz6 ⊢
        obtain ⟨ge, hge⟩ : ∃ g, y5.heap.size = g := ⟨_, rfl⟩
        rw [hge] at HGE5 hsz6 ⊢
        have HGG := Lib.hid hge
        have HS6 := Lib.hid hsz6
        clear hy6 hge hsz6 ec0 ec1 ec2 ec3 ec4
        have ec4 : y6.cell? ⟨g0, 4, none⟩ = some (.slice (some ⟨b, o, none⟩) n c) := HC6.out.cell 4
        have ec4b : (y6.alloc (.cells #[] 38)).cell? ⟨g0, 4, none⟩ = some (.slice (some ⟨b, o, none⟩) n c) := (HC6.out.alloc _).cell 4
        have HE6 := Lib.hid (show Bk (y6.alloc (.cells #[] 38)) ge 24 #[.int .i64 a0, .int .i64 a1, .int .i64 a2, .int .i64 a3, .slice (some ⟨b, o, none⟩) n c] from HGE5.out.alloc _)
        have HO6 := Lib.hid (show OT (y6.alloc (.cells #[] 38)) y6.heap.size (some ⟨y6.heap.size, 0, none⟩) 0 [] from Ow.empty _ _ (Nat.le_refl _))
        have HW6 := Lib.hid (show Rw 5 tcs (y6.alloc (.cells #[] 38)) (some ⟨b, o, none⟩) ts from HRC.out.r.r.on ((HYL.out.trans (HB6.out.mono HYL.out.size)).alloc (by have := HYL.out.size; have := HS6.out; have := HGG.out; omega) _))
        have HN9 := Lib.hid (show 0 + n ≤ 1099511627776 by have := HN3.out; omega)
        have HSA := Lib.hid (show y6.heap.size ≤ (y6.alloc (.cells #[] 38)).heap.size by rw [World.size_alloc]; omega)
        have HGL := Lib.hid (show ge < y6.heap.size by have := HS6.out; omega)
        go_upto_region 15 with (refine wp_rows0 roT rfl (.tmp 67) (.tmp 69) rfl 0 rfl rfl HO6.out ts _ n c rfl HN.out HNIL.out HW6.out HN9.out HSA.out n (Nat.zero_add _) ?_; intro A3 c3 y7 ho hg hb; have HE7 := Lib.hid (HE6.out.below hb HGL.out); have HO7 := Lib.hid (show OT y7 y6.heap.size A3 c3 ts by simpa using ho); have HB7 := Lib.hid ((Below.refl y6.heap.size y6).alloc (Nat.le_refl _) (.cells #[] 38) |>.trans hb); clear ho hg hb; have ge4 : y7.cell? ⟨ge, 4, none⟩ = some (.slice (some ⟨b, o, none⟩) n c) := HE7.out.cell 4; have gf4 := HE7.out.frozen 4)
        obtain ⟨T, R', hTR, hTl⟩ : ∃ T R', ts = T ++ (⟨⟨yn, ya, yb, nl, kl⟩, An, cn, Ak, ck⟩ : Tv) :: R' ∧ T.length = k := ⟨ts.take k, ts.drop (k + 1), by rw [← (List.getElem?_eq_some_iff.1 HY.out).2, ← List.drop_eq_getElem_cons]; exact (List.take_append_drop k ts).symm, by rw [List.length_take, HN.out]; omega⟩
        obtain ⟨g3, cap3, hv3, hgb3, hlt3⟩ := World.ownsRow.form HO7.out (by rw [HN.out]; exact hnp)
        injection hv3 with hA3 _ hc3
        subst hA3
        have HO8 := Lib.hid (HO7.out.set (p := ⟨ge, 4, none⟩) HGL.out (.slice (some ⟨g3, 0, none⟩) n c3))
        have hk5 : k * 5 + 2 < ts.length * 5 := by rw [HN.out]; omega
        have ct : (y7.setCell ⟨ge, 4, none⟩ (.slice (some ⟨g3, 0, none⟩) n c3)).cell? ⟨g3, k * 5 + 2, none⟩ = some (.int .i64 yb) := by
          rw [World.ownsRow.cellAt HO8.out (k * 5 + 2) (by omega)]
          have e1 := fl_at tcs_size ts k (by rw [HN.out]; exact hkn) 2 (by omega)
          rw [e1, (List.getElem?_eq_some_iff.1 HY.out).2]; rfl
        have cf := World.ownsRow.frozenAt HO8.out (k * 5 + 2)
        have HUP := Lib.hid (show OT ((y7.setCell ⟨ge, 4, none⟩ (.slice (some ⟨g3, 0, none⟩) n c3)).setCell ⟨g3, k * 5 + 2, none⟩ (.int .i64 9)) y6.heap.size (some ⟨g3, 0, none⟩) c3 (T ++ (⟨⟨yn, ya, 9, nl, kl⟩, An, cn, Ak, ck⟩ : Tv) :: R') from by
          have h8 := HO8.out
          rw [hTR] at h8
          have := h8.upd tcs_size (⟨⟨yn, ya, 9, nl, kl⟩, An, cn, Ak, ck⟩ : Tv) 2 (by omega) (.int .i64 9) rfl
          rwa [hTl] at this)
        have HE8 := Lib.hid (show Bk ((y7.setCell ⟨ge, 4, none⟩ (.slice (some ⟨g3, 0, none⟩) n c3)).setCell ⟨g3, k * 5 + 2, none⟩ (.int .i64 9)) ge 24 #[.int .i64 a0, .int .i64 a1, .int .i64 a2, .int .i64 a3, .slice (some ⟨g3, 0, none⟩) n c3] from by
          have := (HE7.out.set 4 (.slice (some ⟨g3, 0, none⟩) n c3)).far (p := ⟨g3, k * 5 + 2, none⟩) (by have := HGL.out; show ge ≠ g3; omega) (.int .i64 9)
          simpa only [List.setIfInBounds_toArray, List.set_cons_zero, List.set_cons_succ] using this)
        have HB8 := Lib.hid (show Below y5.heap.size y5 ((y7.setCell ⟨ge, 4, none⟩ (.slice (some ⟨g3, 0, none⟩) n c3)).setCell ⟨g3, k * 5 + 2, none⟩ (.int .i64 9)) from ((HB6.out.trans (HB7.out.mono (by have := HS6.out; have := HGG.out; omega))).setCell (p := ⟨ge, 4, none⟩) (by show y5.heap.size ≤ ge; have := HGG.out; omega) _).setCell (p := ⟨g3, k * 5 + 2, none⟩) (by show y5.heap.size ≤ g3; have := HS6.out; have := HGG.out; omega) _)
        have HTR := Lib.hid (And.intro hTR hTl)
        clear hTR hTl hgb3 hlt3 hk5 hc3
        go_upto_region 16 with fail
        obtain ⟨y8, hy8⟩ : ∃ v, ((y7.setCell ⟨ge, 4, none⟩ (.slice (some ⟨g3, 0, none⟩) n c3)).setCell ⟨g3, k * 5 + 2, none⟩ (.int .i64 9)) = v := ⟨_, rfl⟩
        rw [hy8] at HUP HE8 HB8 ⊢
        clear hy8 ct cf ge4 gf4
        have HBW8 := Lib.hid (HYL.out.trans (HB8.out.mono HYL.out.size))
        have HRD := Lib.hid (fun u (hu : Below y8.heap.size y8 u) => right_cfg ⟨a0, a1, a2, a3, ts ++ [(⟨⟨yn, ya, yb, nl, kl⟩, An, cn, Ak, ck⟩ : Tv)], A2, c2⟩ u (HYR.out.on (HB8.out.trans (hu.mono HB8.out.size))))
        have HRE := Lib.hid (fun u (hu : Below y8.heap.size y8 u) => right_cfg ⟨a0, a1, a2, a3, T ++ (⟨⟨yn, ya, 9, nl, kl⟩, An, cn, Ak, ck⟩ : Tv) :: R', some ⟨g3, 0, none⟩, c3⟩ u ⟨⟨(HUP.out.rw_ tcs_size).on hu, fun yy hyy => by
          have hbu : Below w.heap.size w u := HBW8.out.trans (hu.mono HBW8.out.size)
          rcases List.mem_append.1 hyy with hyy | hyy
          · exact (HRC.out.r.each yy (by rw [HTR.out.1]; exact List.mem_append.2 (.inl hyy))).on hbu
          · rcases List.mem_cons.1 hyy with rfl | hyy
            · have h0 := (HRC.out.r.each _ (List.mem_of_getElem? HY.out)).on hbu
              exact ⟨h0.n, h0.k, h0.fn, h0.fk, h0.lt, h0.sz, h0.szk⟩
            · exact (HRC.out.r.each yy (by rw [HTR.out.1]; exact List.mem_append.2 (.inr (List.mem_cons_of_mem _ hyy)))).on hbu⟩, HUP.out.fit⟩)
        simp only [show cfgB (Cv.cg ⟨a0, a1, a2, a3, ts ++ [(⟨⟨yn, ya, yb, nl, kl⟩, An, cn, Ak, ck⟩ : Tv)], A2, c2⟩) = false from by
          have := cfg_twice (c := Cv.cg ⟨a0, a1, a2, a3, ts, none, 0⟩) (t := ⟨yn, ya, yb, nl, kl⟩) (List.mem_map.2 ⟨_, List.mem_of_getElem? HY.out, rfl⟩)
          simpa only [Cv.cg, List.map_append, List.map_cons, List.map_nil] using this] at HRD
        simp only [show cfgB (Cv.cg ⟨a0, a1, a2, a3, T ++ (⟨⟨yn, ya, 9, nl, kl⟩, An, cn, Ak, ck⟩ : Tv) :: R', some ⟨g3, 0, none⟩, c3⟩) = false from cfg_quota (t := ⟨yn, ya, 9, nl, kl⟩) (List.mem_map.2 ⟨_, List.mem_append.2 (.inr (.head _)), rfl⟩) rfl] at HRE
        have hl1 : (ts ++ [(⟨⟨yn, ya, yb, nl, kl⟩, An, cn, Ak, ck⟩ : Tv)]).length = n + 1 := by rw [List.length_append, HN.out]; rfl
        have hl2 : (T ++ (⟨⟨yn, ya, 9, nl, kl⟩, An, cn, Ak, ck⟩ : Tv) :: R').length = n := by have := congrArg List.length HTR.out.1; rw [HN.out] at this; simpa using this.symm
        simp only [ccs, hl1] at HRD
        simp only [ccs, hl2] at HRE
        clear hl1 hl2
        have HD8 := Lib.hid (show Bx y8 gd 24 #[.int .i64 a0, .int .i64 a1, .int .i64 a2, .int .i64 a3, .slice A2 (n + 1) c2] y8 from ⟨HYD.out.below HB8.out HYD.out.lt, Below.refl _ _⟩)
        have HEE := Lib.hid (show Bx y8 ge 24 #[.int .i64 a0, .int .i64 a1, .int .i64 a2, .int .i64 a3, .slice (some ⟨g3, 0, none⟩) n c3] y8 from ⟨HE8.out, Below.refl _ _⟩)
        have ed0 : y8.cell? ⟨gd, 0, none⟩ = some (.int .i64 a0) := HD8.out.b.cell 0
        have ed1 : y8.cell? ⟨gd, 1, none⟩ = some (.int .i64 a1) := HD8.out.b.cell 1
        have ed2 : y8.cell? ⟨gd, 2, none⟩ = some (.int .i64 a2) := HD8.out.b.cell 2
        have ed3 : y8.cell? ⟨gd, 3, none⟩ = some (.int .i64 a3) := HD8.out.b.cell 3
        have ed4 : y8.cell? ⟨gd, 4, none⟩ = some (.slice A2 (n + 1) c2) := HD8.out.b.cell 4
        have ee0 : y8.cell? ⟨ge, 0, none⟩ = some (.int .i64 a0) := HEE.out.b.cell 0
        have ee1 : y8.cell? ⟨ge, 1, none⟩ = some (.int .i64 a1) := HEE.out.b.cell 1
        have ee2 : y8.cell? ⟨ge, 2, none⟩ = some (.int .i64 a2) := HEE.out.b.cell 2
        have ee3 : y8.cell? ⟨ge, 3, none⟩ = some (.int .i64 a3) := HEE.out.b.cell 3
        have ee4 : y8.cell? ⟨ge, 4, none⟩ = some (.slice (some ⟨g3, 0, none⟩) n c3) := HEE.out.b.cell 4
        go_wp2_with (first
          | (go_at_call 11; (with_reducible refine (HRD.out _ HD8.out.l).mono ?_); rintro e q1 ⟨rfl, hb⟩; have HE9 := Lib.hid (HEE.out.on hb); clear hb ed0 ed1 ed2 ed3 ed4 ee0 ee1 ee2 ee3 ee4; have ee0 : q1.cell? ⟨ge, 0, none⟩ = some (.int .i64 a0) := HE9.out.b.cell 0; have ee1 : q1.cell? ⟨ge, 1, none⟩ = some (.int .i64 a1) := HE9.out.b.cell 1; have ee2 : q1.cell? ⟨ge, 2, none⟩ = some (.int .i64 a2) := HE9.out.b.cell 2; have ee3 : q1.cell? ⟨ge, 3, none⟩ = some (.int .i64 a3) := HE9.out.b.cell 3; have ee4 : q1.cell? ⟨ge, 4, none⟩ = some (.slice (some ⟨g3, 0, none⟩) n c3) := HE9.out.b.cell 4)
          | (go_at_call 11; (with_reducible refine (HRE.out _ HE9.out.l).mono ?_); rintro e q2 ⟨rfl, hb⟩; have HF9 := Lib.hid (HE9.out.l.trans (hb.mono HE9.out.l.size)); clear hb))
        go_ret
        exact ⟨rfl, HBW8.out.trans (HF9.out.mono HBW8.out.size)⟩
      · rw [if_pos (by kernel_rfl)]
        go_simp
        refine hK.out _ _ (hx1.1.alloc (Nat.le_trans HB0.out hx1.1.size) _) (fun hHeld => ?_)
        try simp only [Act.put, List.setIfInBounds_toArray, List.set_cons_zero, List.set_cons_succ, List.getElem_toArray, List.getElem_cons_succ, List.getElem_cons_zero]
        refine gen_anyC (fun u => Below gd v3 u ∧ Bk u gd 24 #[.int .i64 a0, .int .i64 a1, .int .i64 a2, .int .i64 a3, .slice (some ⟨b, o, none⟩) n c] ∧ Bk u x1.heap.size 38 #[.string yn, .int .i64 ya, .int .i64 yb, .slice An nl.length cn, .slice Ak kl.length ck] ∧ OT u v3.heap.size (some ⟨v3.heap.size, 0, none⟩) 0 []) ⟨hHeld, hx1.2.1.alloc _, Bk.new x1 _ _, hx1.2.2.on ((Below.refl _ _).alloc (Nat.le_refl _) _)⟩ (fun x2 hx2 => ?_)
        clear hHeld
        have hlt1 : v3.heap.size < x1.heap.size := (hx1.2.2.block 0 _ rfl).2.1
        refine wpAnyH_ready (rs := [3]) (by kernel_rfl) (by simp) (AllReadyH.cons rfl (fun K hK => ?_) AllReadyH.nil)
        rw [if_pos (by kernel_rfl)]
        refine op_rows roT (.tmp 54) (.tmp 56) rfl 0 rfl rfl hx2.2.2.2 ts _ n c rfl HN.out HNIL.out (HRC.out.r.r.on (HXE.out.l.trans (hx2.1.mono HYS.out))) (by have := HN3.out; omega) hx2.1.size n (Nat.zero_add _) ?_
        intro A1 c1 x3 hox3 hgx3 hbx3
        rw [List.nil_append] at hox3
        refine hK.out _ _ (hx2.1.trans (hbx3.mono HB0.out)) (fun hHeld => ?_)
        try simp only [Act.put, List.setIfInBounds_toArray, List.set_cons_zero, List.set_cons_succ, List.getElem_toArray, List.getElem_cons_succ, List.getElem_cons_zero]
        refine wpAnyH_ready (rs := [10]) (by kernel_rfl) (by simp) (AllReadyH.cons rfl (fun K hK => ?_) AllReadyH.nil)
        rw [if_pos (by kernel_rfl)]
        refine op_rows roT (.tmp 57) (.tmp 63) rfl n rfl HN.out hox3 [(⟨⟨yn, ya, yb, nl, kl⟩, An, cn, Ak, ck⟩ : Tv)] (some ⟨x1.heap.size, 0, none⟩) 1 1 rfl rfl (fun h => by cases h) (Rw.bk ((hgx3.block x1.heap.size hx2.2.2.1.lt (fun e => by injection e with e; dsimp only at e; omega)).trans hx2.2.2.1)) (by have := HN3.out; omega) (hx2.1.trans (hbx3.mono HB0.out)).size (n + 1) rfl ?_
        intro A2 c2 x4 ho4 hg4 hb4
        have hbl4 := (hx2.1.trans (hbx3.mono HB0.out)).trans (hb4.mono HB0.out)
        have hgd4 := ((hx2.2.1.below hbx3 HBD.out)).below hb4 HBD.out
        have d4 : x4.cell? ⟨gd, 4, none⟩ = some (.slice (some ⟨b, o, none⟩) n c) := hgd4.cell 4
        have f4 := hgd4.frozen 4
        refine hK.out _ _ hbl4 (fun hHeld => ?_)
        try simp only [Act.put, List.setIfInBounds_toArray, List.set_cons_zero, List.set_cons_succ, List.getElem_toArray, List.getElem_cons_succ, List.getElem_cons_zero]
        refine take_at (some 65) (i := 11) (v := ?_) rfl rfl (by kernel_rfl) (by kernel_rfl) (by kernel_rfl) (fun _ _ _ h => h) (Or.inl ⟨by kernel_rfl, ?_⟩) hHeld ?_
        rotate_left
        · intro wz hSw; go_simp; try (with_reducible rfl)
        try simp only [Act.put, List.setIfInBounds_toArray, List.set_cons_zero, List.set_cons_succ, List.getElem_toArray, List.getElem_cons_succ, List.getElem_cons_zero]
        refine wpAnyH_ready (rs := [12]) (by kernel_rfl) (by simp) (AllReadyH.cons rfl (fun K hK => ?_) AllReadyH.nil)
        rw [if_pos (by kernel_rfl)]
        go_simp
        refine hK.out _ _ (hbl4.setCell (p := ⟨gd, 4, none⟩) (Nat.le_refl _) _) (fun hHeld => ?_)
        try simp only [Act.put, List.setIfInBounds_toArray, List.set_cons_zero, List.set_cons_succ, List.getElem_toArray, List.getElem_cons_succ, List.getElem_cons_zero]
        refine wpAnyH_done (by kernel_rfl) ?_ _
        have HBW4 := Lib.hid (show Below w.heap.size w (x4.setCell ⟨gd, 4, none⟩ (.slice A2 (n + 1) c2)) from (HXE.out.l.trans (hbl4.mono HYS.out)).setCell (p := ⟨gd, 4, none⟩) HYS.out _)
        refine gen_qC (fun u => Bk u gd 24 #[.int .i64 a0, .int .i64 a1, .int .i64 a2, .int .i64 a3, .slice A2 (n + 1) c2] ∧ RC u ⟨a0, a1, a2, a3, ts ++ [(⟨⟨yn, ya, yb, nl, kl⟩, An, cn, Ak, ck⟩ : Tv)], A2, c2⟩ ∧ Below w.heap.size w u ∧ Bk u g0 24 #[.int .i64 a0, .int .i64 a1, .int .i64 a2, .int .i64 a3, .slice (some ⟨b, o, none⟩) n c]) ⟨?_, ?_, HBW4.out, ?_⟩ (fun y5 hy5 => ?_)
        · have := hgd4.set 4 (.slice A2 (n + 1) c2)
          simpa only [List.setIfInBounds_toArray, List.set_cons_zero, List.set_cons_succ] using this
        · have ho5 := ho4.set (p := ⟨gd, 4, none⟩) HBD.out (.slice A2 (n + 1) c2)
          refine ⟨⟨ho5.rw_ tcs_size, fun yy hyy => ?_⟩, ho5.fit⟩
          rcases List.mem_append.1 hyy with hyy | hyy
          · exact (HRC.out.r.each yy hyy).on HBW4.out
          · rw [List.mem_singleton.1 hyy]; exact (HRC.out.r.each _ (List.mem_of_getElem? HY.out)).on HBW4.out
        · exact (HXE.out.b.below hbl4 HGD.out).far (p := ⟨gd, 4, none⟩) (by have := HGD.out; show g0 ≠ gd; omega) _
        clear hHeld hbl4 hgd4 ho4 hg4 hb4 d4 f4 HBW4
        obtain ⟨yd, yr, yl, yc⟩ := hy5
        have HYD := Lib.hid yd
        have HYR := Lib.hid yr
        have HYL := Lib.hid yl
        have HYC := Lib.hid yc
        clear yd yr yl yc
        have ec0 : y5.cell? ⟨g0, 0, none⟩ = some (.int .i64 a0) := HYC.out.cell 0
        have ec1 : y5.cell? ⟨g0, 1, none⟩ = some (.int .i64 a1) := HYC.out.cell 1
        have ec2 : y5.cell? ⟨g0, 2, none⟩ = some (.int .i64 a2) := HYC.out.cell 2
        have ec3 : y5.cell? ⟨g0, 3, none⟩ = some (.int .i64 a3) := HYC.out.cell 3
        have ec4 : y5.cell? ⟨g0, 4, none⟩ = some (.slice (some ⟨b, o, none⟩) n c) := HYC.out.cell 4
        go_upto_region 14 with fail
        have HGE5 := Lib.hid (Bk.new y5 24 #[.int .i64 a0, .int .i64 a1, .int .i64 a2, .int .i64 a3, .slice (some ⟨b, o, none⟩) n c])
        have HC6 := Lib.hid (HYC.out.alloc (.cells #[.int .i64 a0, .int .i64 a1, .int .i64 a2, .int .i64 a3, .slice (some ⟨b, o, none⟩) n c] 24))
        have HB6 := Lib.hid (show Below y5.heap.size y5 (y5.alloc (.cells #[.int .i64 a0, .int .i64 a1, .int .i64 a2, .int .i64 a3, .slice (some ⟨b, o, none⟩) n c] 24)) from (Below.refl _ _).alloc (Nat.le_refl _) _)
        have hsz6 := World.size_alloc y5 (.cells #[.int .i64 a0, .int .i64 a1, .int .i64 a2, .int .i64 a3, .slice (some ⟨b, o, none⟩) n c] 24)
        obtain ⟨y6, hy6⟩ : ∃ v, y5.alloc (.cells #[.int .i64 a0, .int .i64 a1, .int .i64 a2, .int .i64 a3, .slice (some ⟨b, o, none⟩) n c] 24) = v := ⟨_, rfl⟩
        rw [hy6] at HGE5 HC6 HB6 hsz6 ⊢
        obtain ⟨ge, hge⟩ : ∃ g, y5.heap.size = g := ⟨_, rfl⟩
        rw [hge] at HGE5 hsz6 ⊢
        have HGG := Lib.hid hge
        have HS6 := Lib.hid hsz6
        clear hy6 hge hsz6 ec0 ec1 ec2 ec3 ec4
        have ec4 : y6.cell? ⟨g0, 4, none⟩ = some (.slice (some ⟨b, o, none⟩) n c) := HC6.out.cell 4
        have ec4b : (y6.alloc (.cells #[] 38)).cell? ⟨g0, 4, none⟩ = some (.slice (some ⟨b, o, none⟩) n c) := (HC6.out.alloc _).cell 4
        have HE6 := Lib.hid (show Bk (y6.alloc (.cells #[] 38)) ge 24 #[.int .i64 a0, .int .i64 a1, .int .i64 a2, .int .i64 a3, .slice (some ⟨b, o, none⟩) n c] from HGE5.out.alloc _)
        have HO6 := Lib.hid (show OT (y6.alloc (.cells #[] 38)) y6.heap.size (some ⟨y6.heap.size, 0, none⟩) 0 [] from Ow.empty _ _ (Nat.le_refl _))
        have HW6 := Lib.hid (show Rw 5 tcs (y6.alloc (.cells #[] 38)) (some ⟨b, o, none⟩) ts from HRC.out.r.r.on ((HYL.out.trans (HB6.out.mono HYL.out.size)).alloc (by have := HYL.out.size; have := HS6.out; have := HGG.out; omega) _))
        have HN9 := Lib.hid (show 0 + n ≤ 1099511627776 by have := HN3.out; omega)
        have HSA := Lib.hid (show y6.heap.size ≤ (y6.alloc (.cells #[] 38)).heap.size by rw [World.size_alloc]; omega)
        have HGL := Lib.hid (show ge < y6.heap.size by have := HS6.out; omega)
        go_upto_region 15 with (refine wp_rows0 roT rfl (.tmp 67) (.tmp 69) rfl 0 rfl rfl HO6.out ts _ n c rfl HN.out HNIL.out HW6.out HN9.out HSA.out n (Nat.zero_add _) ?_; intro A3 c3 y7 ho hg hb; have HE7 := Lib.hid (HE6.out.below hb HGL.out); have HO7 := Lib.hid (show OT y7 y6.heap.size A3 c3 ts by simpa using ho); have HB7 := Lib.hid ((Below.refl y6.heap.size y6).alloc (Nat.le_refl _) (.cells #[] 38) |>.trans hb); clear ho hg hb; have ge4 : y7.cell? ⟨ge, 4, none⟩ = some (.slice (some ⟨b, o, none⟩) n c) := HE7.out.cell 4; have gf4 := HE7.out.frozen 4)
        obtain ⟨T, R', hTR, hTl⟩ : ∃ T R', ts = T ++ (⟨⟨yn, ya, yb, nl, kl⟩, An, cn, Ak, ck⟩ : Tv) :: R' ∧ T.length = k := ⟨ts.take k, ts.drop (k + 1), by rw [← (List.getElem?_eq_some_iff.1 HY.out).2, ← List.drop_eq_getElem_cons]; exact (List.take_append_drop k ts).symm, by rw [List.length_take, HN.out]; omega⟩
        obtain ⟨g3, cap3, hv3, hgb3, hlt3⟩ := World.ownsRow.form HO7.out (by rw [HN.out]; exact hnp)
        injection hv3 with hA3 _ hc3
        subst hA3
        have HO8 := Lib.hid (HO7.out.set (p := ⟨ge, 4, none⟩) HGL.out (.slice (some ⟨g3, 0, none⟩) n c3))
        have hk5 : k * 5 + 2 < ts.length * 5 := by rw [HN.out]; omega
        have ct : (y7.setCell ⟨ge, 4, none⟩ (.slice (some ⟨g3, 0, none⟩) n c3)).cell? ⟨g3, k * 5 + 2, none⟩ = some (.int .i64 yb) := by
          rw [World.ownsRow.cellAt HO8.out (k * 5 + 2) (by omega)]
          have e1 := fl_at tcs_size ts k (by rw [HN.out]; exact hkn) 2 (by omega)
          rw [e1, (List.getElem?_eq_some_iff.1 HY.out).2]; rfl
        have cf := World.ownsRow.frozenAt HO8.out (k * 5 + 2)
        have HUP := Lib.hid (show OT ((y7.setCell ⟨ge, 4, none⟩ (.slice (some ⟨g3, 0, none⟩) n c3)).setCell ⟨g3, k * 5 + 2, none⟩ (.int .i64 9)) y6.heap.size (some ⟨g3, 0, none⟩) c3 (T ++ (⟨⟨yn, ya, 9, nl, kl⟩, An, cn, Ak, ck⟩ : Tv) :: R') from by
          have h8 := HO8.out
          rw [hTR] at h8
          have := h8.upd tcs_size (⟨⟨yn, ya, 9, nl, kl⟩, An, cn, Ak, ck⟩ : Tv) 2 (by omega) (.int .i64 9) rfl
          rwa [hTl] at this)
        have HE8 := Lib.hid (show Bk ((y7.setCell ⟨ge, 4, none⟩ (.slice (some ⟨g3, 0, none⟩) n c3)).setCell ⟨g3, k * 5 + 2, none⟩ (.int .i64 9)) ge 24 #[.int .i64 a0, .int .i64 a1, .int .i64 a2, .int .i64 a3, .slice (some ⟨g3, 0, none⟩) n c3] from by
          have := (HE7.out.set 4 (.slice (some ⟨g3, 0, none⟩) n c3)).far (p := ⟨g3, k * 5 + 2, none⟩) (by have := HGL.out; show ge ≠ g3; omega) (.int .i64 9)
          simpa only [List.setIfInBounds_toArray, List.set_cons_zero, List.set_cons_succ] using this)
        have HB8 := Lib.hid (show Below y5.heap.size y5 ((y7.setCell ⟨ge, 4, none⟩ (.slice (some ⟨g3, 0, none⟩) n c3)).setCell ⟨g3, k * 5 + 2, none⟩ (.int .i64 9)) from ((HB6.out.trans (HB7.out.mono (by have := HS6.out; have := HGG.out; omega))).setCell (p := ⟨ge, 4, none⟩) (by show y5.heap.size ≤ ge; have := HGG.out; omega) _).setCell (p := ⟨g3, k * 5 + 2, none⟩) (by show y5.heap.size ≤ g3; have := HS6.out; have := HGG.out; omega) _)
        have HTR := Lib.hid (And.intro hTR hTl)
        clear hTR hTl hgb3 hlt3 hk5 hc3
        go_upto_region 16 with fail
        obtain ⟨y8, hy8⟩ : ∃ v, ((y7.setCell ⟨ge, 4, none⟩ (.slice (some ⟨g3, 0, none⟩) n c3)).setCell ⟨g3, k * 5 + 2, none⟩ (.int .i64 9)) = v := ⟨_, rfl⟩
        rw [hy8] at HUP HE8 HB8 ⊢
        clear hy8 ct cf ge4 gf4
        have HBW8 := Lib.hid (HYL.out.trans (HB8.out.mono HYL.out.size))
        have HRD := Lib.hid (fun u (hu : Below y8.heap.size y8 u) => right_cfg ⟨a0, a1, a2, a3, ts ++ [(⟨⟨yn, ya, yb, nl, kl⟩, An, cn, Ak, ck⟩ : Tv)], A2, c2⟩ u (HYR.out.on (HB8.out.trans (hu.mono HB8.out.size))))
        have HRE := Lib.hid (fun u (hu : Below y8.heap.size y8 u) => right_cfg ⟨a0, a1, a2, a3, T ++ (⟨⟨yn, ya, 9, nl, kl⟩, An, cn, Ak, ck⟩ : Tv) :: R', some ⟨g3, 0, none⟩, c3⟩ u ⟨⟨(HUP.out.rw_ tcs_size).on hu, fun yy hyy => by
          have hbu : Below w.heap.size w u := HBW8.out.trans (hu.mono HBW8.out.size)
          rcases List.mem_append.1 hyy with hyy | hyy
          · exact (HRC.out.r.each yy (by rw [HTR.out.1]; exact List.mem_append.2 (.inl hyy))).on hbu
          · rcases List.mem_cons.1 hyy with rfl | hyy
            · have h0 := (HRC.out.r.each _ (List.mem_of_getElem? HY.out)).on hbu
              exact ⟨h0.n, h0.k, h0.fn, h0.fk, h0.lt, h0.sz, h0.szk⟩
            · exact (HRC.out.r.each yy (by rw [HTR.out.1]; exact List.mem_append.2 (.inr (List.mem_cons_of_mem _ hyy)))).on hbu⟩, HUP.out.fit⟩)
        simp only [show cfgB (Cv.cg ⟨a0, a1, a2, a3, ts ++ [(⟨⟨yn, ya, yb, nl, kl⟩, An, cn, Ak, ck⟩ : Tv)], A2, c2⟩) = false from by
          have := cfg_twice (c := Cv.cg ⟨a0, a1, a2, a3, ts, none, 0⟩) (t := ⟨yn, ya, yb, nl, kl⟩) (List.mem_map.2 ⟨_, List.mem_of_getElem? HY.out, rfl⟩)
          simpa only [Cv.cg, List.map_append, List.map_cons, List.map_nil] using this] at HRD
        simp only [show cfgB (Cv.cg ⟨a0, a1, a2, a3, T ++ (⟨⟨yn, ya, 9, nl, kl⟩, An, cn, Ak, ck⟩ : Tv) :: R', some ⟨g3, 0, none⟩, c3⟩) = false from cfg_quota (t := ⟨yn, ya, 9, nl, kl⟩) (List.mem_map.2 ⟨_, List.mem_append.2 (.inr (.head _)), rfl⟩) rfl] at HRE
        have hl1 : (ts ++ [(⟨⟨yn, ya, yb, nl, kl⟩, An, cn, Ak, ck⟩ : Tv)]).length = n + 1 := by rw [List.length_append, HN.out]; rfl
        have hl2 : (T ++ (⟨⟨yn, ya, 9, nl, kl⟩, An, cn, Ak, ck⟩ : Tv) :: R').length = n := by have := congrArg List.length HTR.out.1; rw [HN.out] at this; simpa using this.symm
        simp only [ccs, hl1] at HRD
        simp only [ccs, hl2] at HRE
        clear hl1 hl2
        have HD8 := Lib.hid (show Bx y8 gd 24 #[.int .i64 a0, .int .i64 a1, .int .i64 a2, .int .i64 a3, .slice A2 (n + 1) c2] y8 from ⟨HYD.out.below HB8.out HYD.out.lt, Below.refl _ _⟩)
        have HEE := Lib.hid (show Bx y8 ge 24 #[.int .i64 a0, .int .i64 a1, .int .i64 a2, .int .i64 a3, .slice (some ⟨g3, 0, none⟩) n c3] y8 from ⟨HE8.out, Below.refl _ _⟩)
        have ed0 : y8.cell? ⟨gd, 0, none⟩ = some (.int .i64 a0) := HD8.out.b.cell 0
        have ed1 : y8.cell? ⟨gd, 1, none⟩ = some (.int .i64 a1) := HD8.out.b.cell 1
        have ed2 : y8.cell? ⟨gd, 2, none⟩ = some (.int .i64 a2) := HD8.out.b.cell 2
        have ed3 : y8.cell? ⟨gd, 3, none⟩ = some (.int .i64 a3) := HD8.out.b.cell 3
        have ed4 : y8.cell? ⟨gd, 4, none⟩ = some (.slice A2 (n + 1) c2) := HD8.out.b.cell 4
        have ee0 : y8.cell? ⟨ge, 0, none⟩ = some (.int .i64 a0) := HEE.out.b.cell 0
        have ee1 : y8.cell? ⟨ge, 1, none⟩ = some (.int .i64 a1) := HEE.out.b.cell 1
        have ee2 : y8.cell? ⟨ge, 2, none⟩ = some (.int .i64 a2) := HEE.out.b.cell 2
        have ee3 : y8.cell? ⟨ge, 3, none⟩ = some (.int .i64 a3) := HEE.out.b.cell 3
        have ee4 : y8.cell? ⟨ge, 4, none⟩ = some (.slice (some ⟨g3, 0, none⟩) n c3) := HEE.out.b.cell 4
        go_wp2_with (first
          | (go_at_call 11; (with_reducible refine (HRD.out _ HD8.out.l).mono ?_); rintro e q1 ⟨rfl, hb⟩; have HE9 := Lib.hid (HEE.out.on hb); clear hb ed0 ed1 ed2 ed3 ed4 ee0 ee1 ee2 ee3 ee4; have ee0 : q1.cell? ⟨ge, 0, none⟩ = some (.int .i64 a0) := HE9.out.b.cell 0; have ee1 : q1.cell? ⟨ge, 1, none⟩ = some (.int .i64 a1) := HE9.out.b.cell 1; have ee2 : q1.cell? ⟨ge, 2, none⟩ = some (.int .i64 a2) := HE9.out.b.cell 2; have ee3 : q1.cell? ⟨ge, 3, none⟩ = some (.int .i64 a3) := HE9.out.b.cell 3; have ee4 : q1.cell? ⟨ge, 4, none⟩ = some (.slice (some ⟨g3, 0, none⟩) n c3) := HE9.out.b.cell 4)
          | (go_at_call 11; (with_reducible refine (HRE.out _ HE9.out.l).mono ?_); rintro e q2 ⟨rfl, hb⟩; have HF9 := Lib.hid (HE9.out.l.trans (hb.mono HE9.out.l.size)); clear hb))
        go_ret
        exact ⟨rfl, HBW8.out.trans (HF9.out.mono HBW8.out.size)⟩
    · rw [if_pos (by kernel_rfl)]
      go_simp
      refine hK.out _ _ ((Below.refl _ _).drew.alloc HB0.out _) (fun hHeld => ?_)
      try simp only [Act.put, List.setIfInBounds_toArray, List.set_cons_zero, List.set_cons_succ, List.getElem_toArray, List.getElem_cons_succ, List.getElem_cons_zero]
      refine gen_anyC (fun u => Below gd v3 u ∧ Bk u gd 24 #[.int .i64 a0, .int .i64 a1, .int .i64 a2, .int .i64 a3, .slice (some ⟨b, o, none⟩) n c] ∧ Bk u v3.heap.size 38 #[.string yn, .int .i64 ya, .int .i64 yb, .slice An nl.length cn, .slice Ak kl.length ck]) ⟨hHeld, (HXD.out.b.drew).alloc _, Bk.new v3.drew _ _⟩ (fun x1 hx1 => ?_)
      clear hHeld
      refine wpAnyH_ready (rs := [0]) (by kernel_rfl) (by simp) (AllReadyH.cons rfl (fun K hK => ?_) AllReadyH.nil)
      rw [if_pos (by kernel_rfl)]
      go_simp
      refine hK.out _ _ (hx1.1.alloc (Nat.le_trans HB0.out hx1.1.size) _) (fun hHeld => ?_)
      try simp only [Act.put, List.setIfInBounds_toArray, List.set_cons_zero, List.set_cons_succ, List.getElem_toArray, List.getElem_cons_succ, List.getElem_cons_zero]
      refine gen_anyC (fun u => Below gd v3 u ∧ Bk u gd 24 #[.int .i64 a0, .int .i64 a1, .int .i64 a2, .int .i64 a3, .slice (some ⟨b, o, none⟩) n c] ∧ OT u v3.heap.size (some ⟨x1.heap.size, 0, none⟩) 0 [] ∧ Bk u v3.heap.size 38 #[.string yn, .int .i64 ya, .int .i64 yb, .slice An nl.length cn, .slice Ak kl.length ck]) ⟨hHeld, hx1.2.1.alloc _, Ow.empty x1 v3.heap.size (hx1.1.size), hx1.2.2.alloc _⟩ (fun x2 hx2 => ?_)
      clear hHeld
      have hlt1 : v3.heap.size < x1.heap.size := hx1.2.2.lt
      refine wpAnyH_ready (rs := [3]) (by kernel_rfl) (by simp) (AllReadyH.cons rfl (fun K hK => ?_) AllReadyH.nil)
      rw [if_pos (by kernel_rfl)]
      refine op_rows roT (.tmp 54) (.tmp 56) rfl 0 rfl rfl hx2.2.2.1 ts _ n c rfl HN.out HNIL.out (HRC.out.r.r.on (HXE.out.l.trans (hx2.1.mono HYS.out))) (by have := HN3.out; omega) hx2.1.size n (Nat.zero_add _) ?_
      intro A1 c1 x3 hox3 hgx3 hbx3
      rw [List.nil_append] at hox3
      refine hK.out _ _ (hx2.1.trans (hbx3.mono HB0.out)) (fun hHeld => ?_)
      try simp only [Act.put, List.setIfInBounds_toArray, List.set_cons_zero, List.set_cons_succ, List.getElem_toArray, List.getElem_cons_succ, List.getElem_cons_zero]
      refine wpAnyH_ready (rs := [10]) (by kernel_rfl) (by simp) (AllReadyH.cons rfl (fun K hK => ?_) AllReadyH.nil)
      rw [if_pos (by kernel_rfl)]
      refine op_rows roT (.tmp 57) (.tmp 63) rfl n rfl HN.out hox3 [(⟨⟨yn, ya, yb, nl, kl⟩, An, cn, Ak, ck⟩ : Tv)] (some ⟨v3.heap.size, 0, none⟩) 1 1 rfl rfl (fun h => by cases h) (Rw.bk ((hgx3.block v3.heap.size hx2.2.2.2.lt (fun e => by injection e with e; dsimp only at e; omega)).trans hx2.2.2.2)) (by have := HN3.out; omega) (hx2.1.trans (hbx3.mono HB0.out)).size (n + 1) rfl ?_
      intro A2 c2 x4 ho4 hg4 hb4
      have hbl4 := (hx2.1.trans (hbx3.mono HB0.out)).trans (hb4.mono HB0.out)
      have hgd4 := ((hx2.2.1.below hbx3 HBD.out)).below hb4 HBD.out
      have d4 : x4.cell? ⟨gd, 4, none⟩ = some (.slice (some ⟨b, o, none⟩) n c) := hgd4.cell 4
      have f4 := hgd4.frozen 4
      refine hK.out _ _ hbl4 (fun hHeld => ?_)
      try simp only [Act.put, List.setIfInBounds_toArray, List.set_cons_zero, List.set_cons_succ, List.getElem_toArray, List.getElem_cons_succ, List.getElem_cons_zero]
      refine take_at (some 65) (i := 11) (v := ?_) rfl rfl (by kernel_rfl) (by kernel_rfl) (by kernel_rfl) (fun _ _ _ h => h) (Or.inl ⟨by kernel_rfl, ?_⟩) hHeld ?_
      rotate_left
      · intro wz hSw; go_simp; try (with_reducible rfl)
      try simp only [Act.put, List.setIfInBounds_toArray, List.set_cons_zero, List.set_cons_succ, List.getElem_toArray, List.getElem_cons_succ, List.getElem_cons_zero]
      refine wpAnyH_ready (rs := [12]) (by kernel_rfl) (by simp) (AllReadyH.cons rfl (fun K hK => ?_) AllReadyH.nil)
      rw [if_pos (by kernel_rfl)]
      go_simp
      refine hK.out _ _ (hbl4.setCell (p := ⟨gd, 4, none⟩) (Nat.le_refl _) _) (fun hHeld => ?_)
      try simp only [Act.put, List.setIfInBounds_toArray, List.set_cons_zero, List.set_cons_succ, List.getElem_toArray, List.getElem_cons_succ, List.getElem_cons_zero]
      refine wpAnyH_done (by kernel_rfl) ?_ _
      have HBW4 := Lib.hid (show Below w.heap.size w (x4.setCell ⟨gd, 4, none⟩ (.slice A2 (n + 1) c2)) from (HXE.out.l.trans (hbl4.mono HYS.out)).setCell (p := ⟨gd, 4, none⟩) HYS.out _)
      refine gen_qC (fun u => Bk u gd 24 #[.int .i64 a0, .int .i64 a1, .int .i64 a2, .int .i64 a3, .slice A2 (n + 1) c2] ∧ RC u ⟨a0, a1, a2, a3, ts ++ [(⟨⟨yn, ya, yb, nl, kl⟩, An, cn, Ak, ck⟩ : Tv)], A2, c2⟩ ∧ Below w.heap.size w u ∧ Bk u g0 24 #[.int .i64 a0, .int .i64 a1, .int .i64 a2, .int .i64 a3, .slice (some ⟨b, o, none⟩) n c]) ⟨?_, ?_, HBW4.out, ?_⟩ (fun y5 hy5 => ?_)
      · have := hgd4.set 4 (.slice A2 (n + 1) c2)
        simpa only [List.setIfInBounds_toArray, List.set_cons_zero, List.set_cons_succ] using this
      · have ho5 := ho4.set (p := ⟨gd, 4, none⟩) HBD.out (.slice A2 (n + 1) c2)
        refine ⟨⟨ho5.rw_ tcs_size, fun yy hyy => ?_⟩, ho5.fit⟩
        rcases List.mem_append.1 hyy with hyy | hyy
        · exact (HRC.out.r.each yy hyy).on HBW4.out
        · rw [List.mem_singleton.1 hyy]; exact (HRC.out.r.each _ (List.mem_of_getElem? HY.out)).on HBW4.out
      · exact (HXE.out.b.below hbl4 HGD.out).far (p := ⟨gd, 4, none⟩) (by have := HGD.out; show g0 ≠ gd; omega) _
      clear hHeld hbl4 hgd4 ho4 hg4 hb4 d4 f4 HBW4
      obtain ⟨yd, yr, yl, yc⟩ := hy5
      have HYD := Lib.hid yd
      have HYR := Lib.hid yr
      have HYL := Lib.hid yl
      have HYC := Lib.hid yc
      clear yd yr yl yc
      have ec0 : y5.cell? ⟨g0, 0, none⟩ = some (.int .i64 a0) := HYC.out.cell 0
      have ec1 : y5.cell? ⟨g0, 1, none⟩ = some (.int .i64 a1) := HYC.out.cell 1
      have ec2 : y5.cell? ⟨g0, 2, none⟩ = some (.int .i64 a2) := HYC.out.cell 2
      have ec3 : y5.cell? ⟨g0, 3, none⟩ = some (.int .i64 a3) := HYC.out.cell 3
      have ec4 : y5.cell? ⟨g0, 4, none⟩ = some (.slice (some ⟨b, o, none⟩) n c) := HYC.out.cell 4
      go_upto_region 14 with fail
      have HGE5 := Lib.hid (Bk.new y5 24 #[.int .i64 a0, .int .i64 a1, .int .i64 a2, .int .i64 a3, .slice (some ⟨b, o, none⟩) n c])
      have HC6 := Lib.hid (HYC.out.alloc (.cells #[.int .i64 a0, .int .i64 a1, .int .i64 a2, .int .i64 a3, .slice (some ⟨b, o, none⟩) n c] 24))
      have HB6 := Lib.hid (show Below y5.heap.size y5 (y5.alloc (.cells #[.int .i64 a0, .int .i64 a1, .int .i64 a2, .int .i64 a3, .slice (some ⟨b, o, none⟩) n c] 24)) from (Below.refl _ _).alloc (Nat.le_refl _) _)
      have hsz6 := World.size_alloc y5 (.cells #[.int .i64 a0, .int .i64 a1, .int .i64 a2, .int .i64 a3, .slice (some ⟨b, o, none⟩) n c] 24)
      obtain ⟨y6, hy6⟩ : ∃ v, y5.alloc (.cells #[.int .i64 a0, .int .i64 a1, .int .i64 a2, .int .i64 a3, .slice (some ⟨b, o, none⟩) n c] 24) = v := ⟨_, rfl⟩
      rw [hy6] at HGE5 HC6 HB6 hsz6 ⊢
      obtain ⟨ge, hge⟩ : ∃ g, y5.heap.size = g := ⟨_, rfl⟩
      rw [hge] at HGE5 hsz6 ⊢
      have HGG := Lib.hid hge
      have HS6 := Lib.hid hsz6
      clear hy6 hge hsz6 ec0 ec1 ec2 ec3 ec4
      have ec4 : y6.cell? ⟨g0, 4, none⟩ = some (.slice (some ⟨b, o, none⟩) n c) := HC6.out.cell 4
      have ec4b : (y6.alloc (.cells #[] 38)).cell? ⟨g0, 4, none⟩ = some (.slice (some ⟨b, o, none⟩) n c) := (HC6.out.alloc _).cell 4
      have HE6 := Lib.hid (show Bk (y6.alloc (.cells #[] 38)) ge 24 #[.int .i64 a0, .int .i64 a1, .int .i64 a2, .int .i64 a3, .slice (some ⟨b, o, none⟩) n c] from HGE5.out.alloc _)
      have HO6 := Lib.hid (show OT (y6.alloc (.cells #[] 38)) y6.heap.size (some ⟨y6.heap.size, 0, none⟩) 0 [] from Ow.empty _ _ (Nat.le_refl _))
      have HW6 := Lib.hid (show Rw 5 tcs (y6.alloc (.cells #[] 38)) (some ⟨b, o, none⟩) ts from HRC.out.r.r.on ((HYL.out.trans (HB6.out.mono HYL.out.size)).alloc (by have := HYL.out.size; have := HS6.out; have := HGG.out; omega) _))
      have HN9 := Lib.hid (show 0 + n ≤ 1099511627776 by have := HN3.out; omega)
      have HSA := Lib.hid (show y6.heap.size ≤ (y6.alloc (.cells #[] 38)).heap.size by rw [World.size_alloc]; omega)
      have HGL := Lib.hid (show ge < y6.heap.size by have := HS6.out; omega)
      go_upto_region 15 with (refine wp_rows0 roT rfl (.tmp 67) (.tmp 69) rfl 0 rfl rfl HO6.out ts _ n c rfl HN.out HNIL.out HW6.out HN9.out HSA.out n (Nat.zero_add _) ?_; intro A3 c3 y7 ho hg hb; have HE7 := Lib.hid (HE6.out.below hb HGL.out); have HO7 := Lib.hid (show OT y7 y6.heap.size A3 c3 ts by simpa using ho); have HB7 := Lib.hid ((Below.refl y6.heap.size y6).alloc (Nat.le_refl _) (.cells #[] 38) |>.trans hb); clear ho hg hb; have ge4 : y7.cell? ⟨ge, 4, none⟩ = some (.slice (some ⟨b, o, none⟩) n c) := HE7.out.cell 4; have gf4 := HE7.out.frozen 4)
      obtain ⟨T, R', hTR, hTl⟩ : ∃ T R', ts = T ++ (⟨⟨yn, ya, yb, nl, kl⟩, An, cn, Ak, ck⟩ : Tv) :: R' ∧ T.length = k := ⟨ts.take k, ts.drop (k + 1), by rw [← (List.getElem?_eq_some_iff.1 HY.out).2, ← List.drop_eq_getElem_cons]; exact (List.take_append_drop k ts).symm, by rw [List.length_take, HN.out]; omega⟩
      obtain ⟨g3, cap3, hv3, hgb3, hlt3⟩ := World.ownsRow.form HO7.out (by rw [HN.out]; exact hnp)
      injection hv3 with hA3 _ hc3
      subst hA3
      have HO8 := Lib.hid (HO7.out.set (p := ⟨ge, 4, none⟩) HGL.out (.slice (some ⟨g3, 0, none⟩) n c3))
      have hk5 : k * 5 + 2 < ts.length * 5 := by rw [HN.out]; omega
      have ct : (y7.setCell ⟨ge, 4, none⟩ (.slice (some ⟨g3, 0, none⟩) n c3)).cell? ⟨g3, k * 5 + 2, none⟩ = some (.int .i64 yb) := by
        rw [World.ownsRow.cellAt HO8.out (k * 5 + 2) (by omega)]
        have e1 := fl_at tcs_size ts k (by rw [HN.out]; exact hkn) 2 (by omega)
        rw [e1, (List.getElem?_eq_some_iff.1 HY.out).2]; rfl
      have cf := World.ownsRow.frozenAt HO8.out (k * 5 + 2)
      have HUP := Lib.hid (show OT ((y7.setCell ⟨ge, 4, none⟩ (.slice (some ⟨g3, 0, none⟩) n c3)).setCell ⟨g3, k * 5 + 2, none⟩ (.int .i64 9)) y6.heap.size (some ⟨g3, 0, none⟩) c3 (T ++ (⟨⟨yn, ya, 9, nl, kl⟩, An, cn, Ak, ck⟩ : Tv) :: R') from by
        have h8 := HO8.out
        rw [hTR] at h8
        have := h8.upd tcs_size (⟨⟨yn, ya, 9, nl, kl⟩, An, cn, Ak, ck⟩ : Tv) 2 (by omega) (.int .i64 9) rfl
        rwa [hTl] at this)
      have HE8 := Lib.hid (show Bk ((y7.setCell ⟨ge, 4, none⟩ (.slice (some ⟨g3, 0, none⟩) n c3)).setCell ⟨g3, k * 5 + 2, none⟩ (.int .i64 9)) ge 24 #[.int .i64 a0, .int .i64 a1, .int .i64 a2, .int .i64 a3, .slice (some ⟨g3, 0, none⟩) n c3] from by
        have := (HE7.out.set 4 (.slice (some ⟨g3, 0, none⟩) n c3)).far (p := ⟨g3, k * 5 + 2, none⟩) (by have := HGL.out; show ge ≠ g3; omega) (.int .i64 9)
        simpa only [List.setIfInBounds_toArray, List.set_cons_zero, List.set_cons_succ] using this)
      have HB8 := Lib.hid (show Below y5.heap.size y5 ((y7.setCell ⟨ge, 4, none⟩ (.slice (some ⟨g3, 0, none⟩) n c3)).setCell ⟨g3, k * 5 + 2, none⟩ (.int .i64 9)) from ((HB6.out.trans (HB7.out.mono (by have := HS6.out; have := HGG.out; omega))).setCell (p := ⟨ge, 4, none⟩) (by show y5.heap.size ≤ ge; have := HGG.out; omega) _).setCell (p := ⟨g3, k * 5 + 2, none⟩) (by show y5.heap.size ≤ g3; have := HS6.out; have := HGG.out; omega) _)
      have HTR := Lib.hid (And.intro hTR hTl)
      clear hTR hTl hgb3 hlt3 hk5 hc3
      go_upto_region 16 with fail
      obtain ⟨y8, hy8⟩ : ∃ v, ((y7.setCell ⟨ge, 4, none⟩ (.slice (some ⟨g3, 0, none⟩) n c3)).setCell ⟨g3, k * 5 + 2, none⟩ (.int .i64 9)) = v := ⟨_, rfl⟩
      rw [hy8] at HUP HE8 HB8 ⊢
      clear hy8 ct cf ge4 gf4
      have HBW8 := Lib.hid (HYL.out.trans (HB8.out.mono HYL.out.size))
      have HRD := Lib.hid (fun u (hu : Below y8.heap.size y8 u) => right_cfg ⟨a0, a1, a2, a3, ts ++ [(⟨⟨yn, ya, yb, nl, kl⟩, An, cn, Ak, ck⟩ : Tv)], A2, c2⟩ u (HYR.out.on (HB8.out.trans (hu.mono HB8.out.size))))
      have HRE := Lib.hid (fun u (hu : Below y8.heap.size y8 u) => right_cfg ⟨a0, a1, a2, a3, T ++ (⟨⟨yn, ya, 9, nl, kl⟩, An, cn, Ak, ck⟩ : Tv) :: R', some ⟨g3, 0, none⟩, c3⟩ u ⟨⟨(HUP.out.rw_ tcs_size).on hu, fun yy hyy => by
        have hbu : Below w.heap.size w u := HBW8.out.trans (hu.mono HBW8.out.size)
        rcases List.mem_append.1 hyy with hyy | hyy
        · exact (HRC.out.r.each yy (by rw [HTR.out.1]; exact List.mem_append.2 (.inl hyy))).on hbu
        · rcases List.mem_cons.1 hyy with rfl | hyy
          · have h0 := (HRC.out.r.each _ (List.mem_of_getElem? HY.out)).on hbu
            exact ⟨h0.n, h0.k, h0.fn, h0.fk, h0.lt, h0.sz, h0.szk⟩
          · exact (HRC.out.r.each yy (by rw [HTR.out.1]; exact List.mem_append.2 (.inr (List.mem_cons_of_mem _ hyy)))).on hbu⟩, HUP.out.fit⟩)
      simp only [show cfgB (Cv.cg ⟨a0, a1, a2, a3, ts ++ [(⟨⟨yn, ya, yb, nl, kl⟩, An, cn, Ak, ck⟩ : Tv)], A2, c2⟩) = false from by
        have := cfg_twice (c := Cv.cg ⟨a0, a1, a2, a3, ts, none, 0⟩) (t := ⟨yn, ya, yb, nl, kl⟩) (List.mem_map.2 ⟨_, List.mem_of_getElem? HY.out, rfl⟩)
        simpa only [Cv.cg, List.map_append, List.map_cons, List.map_nil] using this] at HRD
      simp only [show cfgB (Cv.cg ⟨a0, a1, a2, a3, T ++ (⟨⟨yn, ya, 9, nl, kl⟩, An, cn, Ak, ck⟩ : Tv) :: R', some ⟨g3, 0, none⟩, c3⟩) = false from cfg_quota (t := ⟨yn, ya, 9, nl, kl⟩) (List.mem_map.2 ⟨_, List.mem_append.2 (.inr (.head _)), rfl⟩) rfl] at HRE
      have hl1 : (ts ++ [(⟨⟨yn, ya, yb, nl, kl⟩, An, cn, Ak, ck⟩ : Tv)]).length = n + 1 := by rw [List.length_append, HN.out]; rfl
      have hl2 : (T ++ (⟨⟨yn, ya, 9, nl, kl⟩, An, cn, Ak, ck⟩ : Tv) :: R').length = n := by have := congrArg List.length HTR.out.1; rw [HN.out] at this; simpa using this.symm
      simp only [ccs, hl1] at HRD
      simp only [ccs, hl2] at HRE
      clear hl1 hl2
      have HD8 := Lib.hid (show Bx y8 gd 24 #[.int .i64 a0, .int .i64 a1, .int .i64 a2, .int .i64 a3, .slice A2 (n + 1) c2] y8 from ⟨HYD.out.below HB8.out HYD.out.lt, Below.refl _ _⟩)
      have HEE := Lib.hid (show Bx y8 ge 24 #[.int .i64 a0, .int .i64 a1, .int .i64 a2, .int .i64 a3, .slice (some ⟨g3, 0, none⟩) n c3] y8 from ⟨HE8.out, Below.refl _ _⟩)
      have ed0 : y8.cell? ⟨gd, 0, none⟩ = some (.int .i64 a0) := HD8.out.b.cell 0
      have ed1 : y8.cell? ⟨gd, 1, none⟩ = some (.int .i64 a1) := HD8.out.b.cell 1
      have ed2 : y8.cell? ⟨gd, 2, none⟩ = some (.int .i64 a2) := HD8.out.b.cell 2
      have ed3 : y8.cell? ⟨gd, 3, none⟩ = some (.int .i64 a3) := HD8.out.b.cell 3
      have ed4 : y8.cell? ⟨gd, 4, none⟩ = some (.slice A2 (n + 1) c2) := HD8.out.b.cell 4
      have ee0 : y8.cell? ⟨ge, 0, none⟩ = some (.int .i64 a0) := HEE.out.b.cell 0
      have ee1 : y8.cell? ⟨ge, 1, none⟩ = some (.int .i64 a1) := HEE.out.b.cell 1
      have ee2 : y8.cell? ⟨ge, 2, none⟩ = some (.int .i64 a2) := HEE.out.b.cell 2
      have ee3 : y8.cell? ⟨ge, 3, none⟩ = some (.int .i64 a3) := HEE.out.b.cell 3
      have ee4 : y8.cell? ⟨ge, 4, none⟩ = some (.slice (some ⟨g3, 0, none⟩) n c3) := HEE.out.b.cell 4
      go_wp2_with (first
        | (go_at_call 11; (with_reducible refine (HRD.out _ HD8.out.l).mono ?_); rintro e q1 ⟨rfl, hb⟩; have HE9 := Lib.hid (HEE.out.on hb); clear hb ed0 ed1 ed2 ed3 ed4 ee0 ee1 ee2 ee3 ee4; have ee0 : q1.cell? ⟨ge, 0, none⟩ = some (.int .i64 a0) := HE9.out.b.cell 0; have ee1 : q1.cell? ⟨ge, 1, none⟩ = some (.int .i64 a1) := HE9.out.b.cell 1; have ee2 : q1.cell? ⟨ge, 2, none⟩ = some (.int .i64 a2) := HE9.out.b.cell 2; have ee3 : q1.cell? ⟨ge, 3, none⟩ = some (.int .i64 a3) := HE9.out.b.cell 3; have ee4 : q1.cell? ⟨ge, 4, none⟩ = some (.slice (some ⟨g3, 0, none⟩) n c3) := HE9.out.b.cell 4)
        | (go_at_call 11; (with_reducible refine (HRE.out _ HE9.out.l).mono ?_); rintro e q2 ⟨rfl, hb⟩; have HF9 := Lib.hid (HE9.out.l.trans (hb.mono HE9.out.l.size)); clear hb))
      go_ret
      exact ⟨rfl, HBW8.out.trans (HF9.out.mono HBW8.out.size)⟩
end Go.Proofs.YtfpjkedcpnmfeaaDoor
