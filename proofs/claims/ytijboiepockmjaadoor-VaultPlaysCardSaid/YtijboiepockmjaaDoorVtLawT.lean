/- VaultTime: the walk. -/
import Derived.Test.YtijboiepockmjaaDoorVtL
namespace Go.Proofs.YtijboiepockmjaaDoor
set_option linter.unusedVariables false
set_option maxRecDepth 100000
set_option linter.unusedSimpArgs false
open Go.RowKit

theorem gd_mono {o : Option Tk} {r : Bool} {p q : Int} (h : p ≤ q) (hq : gdB o r q = true) : gdB o r p = true := by
  unfold gdB at hq ⊢
  cases o with
  | none => cases hq
  | some k =>
    simp only [Bool.and_eq_true, decide_eq_true_eq] at hq ⊢
    exact ⟨hq.1, by omega⟩
theorem gd_late {c : Cg} (hc : cfgB c = true) (a b : ByteArray) (r : Bool) : gdB (tkN c.tens a b) r 4611686018427387904 = false := by
  unfold gdB
  cases h : tkN c.tens a b with
  | none => rfl
  | some k =>
    have := (tkN_till hc h).2.1
    simp only [Bool.and_eq_false_iff, decide_eq_false_iff_not]
    right; omega

set_option maxRecDepth 100000 in
set_option maxHeartbeats 8000000 in
theorem walk_VaultTime (x : Cv) (s t : ByteArray) (p q : Int) (w : World) (h : InCf w x) (hs : s.size ≤ 140737488355328) (ht : t.size ≤ 140737488355328) (wp : (Lit.int .i64 p).wf = true) (wq : (Lit.int .i64 q).wf = true) (hG : Gl w) :
    Calls Tryd.prog 6 #[.agg (ccs x), .string s, .string t, .int .i64 p, .int .i64 q] w fun e w' => e = .returned (.bool true) ∧ Below w.heap.size w w' := by
  have HGR := Lib.hid (fun u (hu : Below w.heap.size w u) => great_ok x u (h.on hu))
  have HN0 := Lib.hid (fun (hc : cfgB x.cg = false) => vnew_no h.rc hc)
  have HN1 := Lib.hid (fun (hc : cfgB x.cg = true) => vnew_yes h.rc hc)
  have HLT := Lib.hid (fun (hc : cfgB x.cg = true) => gd_late hc s t (inR [] s t))
  obtain ⟨C, hC⟩ : ∃ C, cfgB x.cg = C := ⟨_, rfl⟩
  simp only [hC] at HN0 HN1 HLT
  obtain ⟨tn, htn⟩ : ∃ tn, x.cg.tens = tn := ⟨_, rfl⟩
  rw [htn] at HN1 HLT
  obtain ⟨a0, a1, a2, a3, ts, A, c⟩ := x
  obtain ⟨n, hn⟩ : ∃ n, ts.length = n := ⟨_, rfl⟩
  simp only [ccs, hn] at HGR HN0 HN1 ⊢
  have HX := Lib.hid (show Bx w w.heap.size 24 #[.int .i64 a0, .int .i64 a1, .int .i64 a2, .int .i64 a3, .slice A n c] (w.alloc (.cells #[.int .i64 a0, .int .i64 a1, .int .i64 a2, .int .i64 a3, .slice A n c] 24)) from Bx.new w _ _)
  have HG := Lib.hid hG
  clear h hn hC htn hG
  obtain ⟨m, hm⟩ : ∃ m : Nat, (s.size : Int) + (t.size : Int) = (m : Int) := ⟨s.size + t.size, by omega⟩
  have hm47 : m ≤ 281474976710656 := by omega
  go_enter Tryd.func6, Tryd.ntmps6
  go_upto_region 2 with (go_at_call 9; refine (vhead_ok _ (HG.out.below HX.out.l HG.out.size)).mono ?_; rintro e u1 ⟨rfl, hb⟩; have HX1 := Lib.hid (HX.out.on hb); clear hb)
  obtain ⟨g0, hg0⟩ : ∃ g, w.heap.size = g := ⟨_, rfl⟩
  have HG0 := Lib.hid hg0
  rw [hg0] at HX1 ⊢
  clear hg0
  have e0 : u1.cell? ⟨g0, 0, none⟩ = some (.int .i64 a0) := HX1.out.b.cell 0
  have e1 : u1.cell? ⟨g0, 1, none⟩ = some (.int .i64 a1) := HX1.out.b.cell 1
  have e2 : u1.cell? ⟨g0, 2, none⟩ = some (.int .i64 a2) := HX1.out.b.cell 2
  have e3 : u1.cell? ⟨g0, 3, none⟩ = some (.int .i64 a3) := HX1.out.b.cell 3
  have e4 : u1.cell? ⟨g0, 4, none⟩ = some (.slice A n c) := HX1.out.b.cell 4
  cases C with
  | false =>
    go_wp2_with (go_at_call 12; (with_reducible refine (HN0.out (by first | rfl | trivial) _ HX1.out.l).mono ?_); rintro e u2 ⟨rfl, hb⟩; have HX2 := Lib.hid (HX1.out.on hb); clear hb)
    go_ret
    exact ⟨rfl, HX2.out.l⟩
  | true =>
    go_upto_region 3 with (go_at_call 12; (with_reducible refine (HN1.out (by first | rfl | trivial) _ HX1.out.l [(g0, 24, #[.int .i64 a0, .int .i64 a1, .int .i64 a2, .int .i64 a3, .slice A n c])] (fun b hb => by obtain rfl := List.mem_singleton.1 hb; exact HX1.out.b)).mono ?_); rintro e u2 ⟨v, mb, rfl, hv, _, _, _⟩; have HV2 := Lib.hid hv; clear hv)
    clear e0 e1 e2 e3 e4
    have e0 : u2.cell? ⟨g0, 0, none⟩ = some (.int .i64 a0) := HV2.out.head.cell 0
    have e1 : u2.cell? ⟨g0, 1, none⟩ = some (.int .i64 a1) := HV2.out.head.cell 1
    have e2 : u2.cell? ⟨g0, 2, none⟩ = some (.int .i64 a2) := HV2.out.head.cell 2
    have e3 : u2.cell? ⟨g0, 3, none⟩ = some (.int .i64 a3) := HV2.out.head.cell 3
    have e4 : u2.cell? ⟨g0, 4, none⟩ = some (.slice A n c) := HV2.out.head.cell 4
    have HGD := Lib.hid (fun u (hu : Lv w v mb tn [] [(g0, 24, #[.int .i64 a0, .int .i64 a1, .int .i64 a2, .int .i64 a3, .slice A n c])] u) (now : Int) => lv_good hu s t now)
    have HMO := Lib.hid (fun (hpq : p ≤ q) => gd_mono (o := tkN tn s t) (r := inR [] s t) hpq)
    obtain ⟨G, hGd⟩ : ∃ G : Int → Bool, (fun now => gdB (tkN tn s t) (inR [] s t) now) = G := ⟨_, rfl⟩
    have hGd' : ∀ now, gdB (tkN tn s t) (inR [] s t) now = G now := fun now => congrFun hGd now
    simp only [hGd'] at HGD HMO HLT
    have HGZ := Lib.hid (HLT.out (by first | rfl | trivial))
    obtain ⟨gp, hgp⟩ : ∃ gp, G p = gp := ⟨_, rfl⟩
    obtain ⟨gq, hgq⟩ : ∃ gq, G q = gq := ⟨_, rfl⟩
    have HGP := Lib.hid (fun u hu => HGD.out u hu p)
    have HGQ := Lib.hid (fun u hu => HGD.out u hu q)
    have HGL := Lib.hid (fun u hu => HGD.out u hu 4611686018427387904)
    simp only [hgp] at HGP
    simp only [hgq] at HGQ
    simp only [HGZ.out] at HGL
    simp only [hgp, hgq] at HMO
    clear hGd hGd' hgp hgq HGD HLT HGZ HN0 HN1
    by_cases hm1 : m ≤ 2000
    · have hm2 : ¬ (2000 : Int) < (m : Int) := by omega
      have hm3 : ¬ (m : Int) > 2000 := by omega
      by_cases hpq : p ≤ q
      · have hpq2 : ¬ q < p := by omega
        have hpq3 : ¬ p > q := by omega
        have HMO2 := Lib.hid (HMO.out hpq)
        clear HMO
        cases gp <;> cases gq
        case false.true => exact absurd (HMO2.out rfl) (by simp)
        all_goals
          go_wp2_with (first
            | (go_at_call 10; (with_reducible refine (HGR.out _ HV2.out.l).mono ?_); rintro e u3 ⟨g, rfl, _, hb⟩; have HV3 := Lib.hid (HV2.out.on hb); clear hb; cases g)
            | (go_at_call 16; (with_reducible refine (HGP.out _ HV3.out).mono ?_); rintro e u4 ⟨rfl, hv⟩; have HV4 := Lib.hid hv; clear hv)
            | (go_at_call 16; (with_reducible refine (HGQ.out _ HV4.out).mono ?_); rintro e u5 ⟨rfl, hv⟩; have HV5 := Lib.hid hv; clear hv)
            | (go_at_call 16; (with_reducible refine (HGL.out _ HV5.out).mono ?_); rintro e u6 ⟨rfl, hv⟩; have HV6 := Lib.hid hv; clear hv))
        all_goals go_ret
        all_goals (first | exact ⟨rfl, HV6.out.l⟩ | exact ⟨rfl, HV3.out.l⟩)
      · have hpq2 : q < p := by omega
        have hpq3 : p > q := by omega
        go_wp2_with (go_at_call 10; (with_reducible refine (HGR.out _ HV2.out.l).mono ?_); rintro e u3 ⟨g, rfl, _, hb⟩; have HV3 := Lib.hid (HV2.out.on hb); clear hb; cases g)
        all_goals go_ret
        all_goals exact ⟨rfl, HV3.out.l⟩
    · have hm2 : (2000 : Int) < (m : Int) := by omega
      have hm3 : (m : Int) > 2000 := by omega
      go_wp2_with (go_at_call 10; (with_reducible refine (HGR.out _ HV2.out.l).mono ?_); rintro e u3 ⟨g, rfl, _, hb⟩; have HV3 := Lib.hid (HV2.out.on hb); clear hb; cases g)
      all_goals go_ret
      all_goals exact ⟨rfl, HV3.out.l⟩
end Go.Proofs.YtijboiepockmjaaDoor
