/- GateFill: the walk. (Written by gen_gtfill.py.) -/
import Derived.Test.YtcplebbaiambgaaG9
namespace Go.Proofs.Ytcplebbaiambgaa
set_option linter.unusedVariables false
set_option maxRecDepth 100000
set_option linter.unusedSimpArgs false
open Go.RowKit

set_option maxRecDepth 100000 in
set_option maxHeartbeats 16000000 in
theorem fill_no (x : Cv) (s : ByteArray) (k : Int) (w : World) (h : InCf w x) (hs : s.size ≤ 140737488355328) (hk1 : ¬ k = 1) (hk2 : ¬ k = 2) :
    Calls Try.prog 7 #[.agg (ccs x), .string s, .int .i64 k] w fun e w' => e = .returned (.bool true) ∧ Below w.heap.size w w' := by
  have HGR := Lib.hid (fun u (hu : Below w.heap.size w u) => great_ok x u (h.onG hu))
  have HN0 := Lib.hid (fun (hc : cfgB x.cg = false) => gnew_no h.rc hc)
  have HN1 := Lib.hid (fun (hc : cfgB x.cg = true) => gnew_yes h.rc hc)
  have HRT := Lib.hid h.rc.r
  have HMX := Lib.hid h.rc.f.max
  have HCP := Lib.hid h.rc.f.cap
  have HTE := Lib.hid (fun (hc : cfgB x.cg = true) => (cfgB_parts hc).2.2.2.2.2.2)
  have HTN := Lib.hid (show ∀ s, (fT s x.ts).map (·.t) = gtF x.cg.tens s from fun s => gtF_tens s x.ts)
  obtain ⟨C, hC⟩ : ∃ C, cfgB x.cg = C := ⟨_, rfl⟩
  simp only [hC] at HN0 HN1 HTE
  obtain ⟨tn, htn⟩ : ∃ tn, x.cg.tens = tn := ⟨_, rfl⟩
  rw [htn] at HN1 HTE HTN
  obtain ⟨a0, a1, a2, a3, ts, A, c⟩ := x
  obtain ⟨n, hn⟩ : ∃ n, ts.length = n := ⟨_, rfl⟩
  have HN := Lib.hid hn
  dsimp only at HRT HMX HCP HTN
  simp only [ccs, hn] at HGR HN0 HN1 ⊢
  have HX := Lib.hid (show Bx w w.heap.size 24 #[.int .i64 a0, .int .i64 a1, .int .i64 a2, .int .i64 a3, .slice A n c] (w.alloc (.cells #[.int .i64 a0, .int .i64 a1, .int .i64 a2, .int .i64 a3, .slice A n c] 24)) from Bx.new w _ _)
  clear h hn hC htn
  have hk3 : (k != 1) = true := by rw [bne_iff_ne]; exact hk1
  have hk4 : (k != 2) = true := by rw [bne_iff_ne]; exact hk2
  go_enter Try.func7, Try.ntmps7
  go_upto_region 2 with (go_at_call 9; refine (ghead_ok _).mono ?_; rintro e u1 ⟨rfl, hb⟩; have HX1 := Lib.hid (HX.out.on hb); clear hb)
  obtain ⟨g0, hg0⟩ : ∃ g, w.heap.size = g := ⟨_, rfl⟩
  have HG0 := Lib.hid hg0
  rw [hg0] at HX1 ⊢
  clear hg0
  have e0 : u1.cell? ⟨g0, 0, none⟩ = some (.int .i64 a0) := HX1.out.b.cell 0
  have e1 : u1.cell? ⟨g0, 1, none⟩ = some (.int .i64 a1) := HX1.out.b.cell 1
  have e2 : u1.cell? ⟨g0, 2, none⟩ = some (.int .i64 a2) := HX1.out.b.cell 2
  have e3 : u1.cell? ⟨g0, 3, none⟩ = some (.int .i64 a3) := HX1.out.b.cell 3
  have e4 : u1.cell? ⟨g0, 4, none⟩ = some (.slice A n c) := HX1.out.b.cell 4
  cases C with
  | false =>
    go_wp2_with (go_at_call 12; (with_reducible refine (HN0.out (by first | rfl | trivial) _ HX1.out.l).mono ?_); rintro e u2 ⟨rfl, hb⟩; have HX2 := Lib.hid (HX1.out.on hb); clear hb)
    go_ret
    exact ⟨rfl, HX2.out.l⟩
  | true =>
    have HL0 := Lib.hid (show Lg w tn [] [(g0, 24, #[.int .i64 a0, .int .i64 a1, .int .i64 a2, .int .i64 a3, .slice A n c])] u1 from ⟨(fun G hG => by cases hG), .nil, (fun b hb => by obtain rfl := List.mem_singleton.1 hb; exact ⟨HX1.out.b, gcfg_ne⟩), HX1.out.l⟩)
    go_upto_region 3 with (go_at_call 12; (with_reducible refine (HN1.out (by first | rfl | trivial) _ _ _ HL0.out).mono ?_); rintro e u2 ⟨g, mb, lo, hi, gs, rfl, hv⟩; have HV2 := Lib.hid hv; clear hv)
    clear e0 e1 e2 e3 e4
    have e0 : u2.cell? ⟨g0, 0, none⟩ = some (.int .i64 a0) := HV2.out.head.cell 0
    have e1 : u2.cell? ⟨g0, 1, none⟩ = some (.int .i64 a1) := HV2.out.head.cell 1
    have e2 : u2.cell? ⟨g0, 2, none⟩ = some (.int .i64 a2) := HV2.out.head.cell 2
    have e3 : u2.cell? ⟨g0, 3, none⟩ = some (.int .i64 a3) := HV2.out.head.cell 3
    have e4 : u2.cell? ⟨g0, 4, none⟩ = some (.slice A n c) := HV2.out.head.cell 4
    by_cases hm1 : s.size ≤ 1000
    · have hm2 : decide ((1000 : Int) < (s.size : Int)) = false := decide_eq_false (by omega)
      go_wp2_with (go_at_call 10; (with_reducible refine (HGR.out _ HV2.out.l).mono ?_); rintro e u3 ⟨gr, rfl, _, hb⟩; have HV3 := Lib.hid (HV2.out.on hb); clear hb; cases gr)
      all_goals go_ret
      all_goals exact ⟨rfl, HV3.out.l⟩
    · have hm2 : decide ((1000 : Int) < (s.size : Int)) = true := decide_eq_true (by omega)
      go_wp2_with (go_at_call 10; (with_reducible refine (HGR.out _ HV2.out.l).mono ?_); rintro e u3 ⟨gr, rfl, _, hb⟩; have HV3 := Lib.hid (HV2.out.on hb); clear hb; cases gr)
      all_goals go_ret
      all_goals exact ⟨rfl, HV3.out.l⟩

set_option maxRecDepth 100000 in
set_option maxHeartbeats 16000000 in
theorem fill_1 (x : Cv) (s : ByteArray) (w : World) (h : InCf w x) (hs : s.size ≤ 140737488355328) :
    Calls Try.prog 7 #[.agg (ccs x), .string s, .int .i64 1] w fun e w' => e = .returned (.bool true) ∧ Below w.heap.size w w' := by
  have HGR := Lib.hid (fun u (hu : Below w.heap.size w u) => great_ok x u (h.onG hu))
  have HN0 := Lib.hid (fun (hc : cfgB x.cg = false) => gnew_no h.rc hc)
  have HN1 := Lib.hid (fun (hc : cfgB x.cg = true) => gnew_yes h.rc hc)
  have HRT := Lib.hid h.rc.r
  have HMX := Lib.hid h.rc.f.max
  have HCP := Lib.hid h.rc.f.cap
  have HTE := Lib.hid (fun (hc : cfgB x.cg = true) => (cfgB_parts hc).2.2.2.2.2.2)
  have HTN := Lib.hid (show ∀ s, (fT s x.ts).map (·.t) = gtF x.cg.tens s from fun s => gtF_tens s x.ts)
  obtain ⟨C, hC⟩ : ∃ C, cfgB x.cg = C := ⟨_, rfl⟩
  simp only [hC] at HN0 HN1 HTE
  obtain ⟨tn, htn⟩ : ∃ tn, x.cg.tens = tn := ⟨_, rfl⟩
  rw [htn] at HN1 HTE HTN
  obtain ⟨a0, a1, a2, a3, ts, A, c⟩ := x
  obtain ⟨n, hn⟩ : ∃ n, ts.length = n := ⟨_, rfl⟩
  have HN := Lib.hid hn
  dsimp only at HRT HMX HCP HTN
  simp only [ccs, hn] at HGR HN0 HN1 ⊢
  have HX := Lib.hid (show Bx w w.heap.size 24 #[.int .i64 a0, .int .i64 a1, .int .i64 a2, .int .i64 a3, .slice A n c] (w.alloc (.cells #[.int .i64 a0, .int .i64 a1, .int .i64 a2, .int .i64 a3, .slice A n c] 24)) from Bx.new w _ _)
  clear h hn hC htn
  go_enter Try.func7, Try.ntmps7
  go_upto_region 2 with (go_at_call 9; refine (ghead_ok _).mono ?_; rintro e u1 ⟨rfl, hb⟩; have HX1 := Lib.hid (HX.out.on hb); clear hb)
  obtain ⟨g0, hg0⟩ : ∃ g, w.heap.size = g := ⟨_, rfl⟩
  have HG0 := Lib.hid hg0
  rw [hg0] at HX1 ⊢
  clear hg0
  have e0 : u1.cell? ⟨g0, 0, none⟩ = some (.int .i64 a0) := HX1.out.b.cell 0
  have e1 : u1.cell? ⟨g0, 1, none⟩ = some (.int .i64 a1) := HX1.out.b.cell 1
  have e2 : u1.cell? ⟨g0, 2, none⟩ = some (.int .i64 a2) := HX1.out.b.cell 2
  have e3 : u1.cell? ⟨g0, 3, none⟩ = some (.int .i64 a3) := HX1.out.b.cell 3
  have e4 : u1.cell? ⟨g0, 4, none⟩ = some (.slice A n c) := HX1.out.b.cell 4
  cases C with
  | false =>
    go_wp2_with (go_at_call 12; (with_reducible refine (HN0.out (by first | rfl | trivial) _ HX1.out.l).mono ?_); rintro e u2 ⟨rfl, hb⟩; have HX2 := Lib.hid (HX1.out.on hb); clear hb)
    go_ret
    exact ⟨rfl, HX2.out.l⟩
  | true =>
    have HL0 := Lib.hid (show Lg w tn [] [(g0, 24, #[.int .i64 a0, .int .i64 a1, .int .i64 a2, .int .i64 a3, .slice A n c])] u1 from ⟨(fun G hG => by cases hG), .nil, (fun b hb => by obtain rfl := List.mem_singleton.1 hb; exact ⟨HX1.out.b, gcfg_ne⟩), HX1.out.l⟩)
    go_upto_region 3 with (go_at_call 12; (with_reducible refine (HN1.out (by first | rfl | trivial) _ _ _ HL0.out).mono ?_); rintro e u2 ⟨g, mb, lo, hi, gs, rfl, hv⟩; have HV2 := Lib.hid hv; clear hv)
    clear e0 e1 e2 e3 e4
    have e0 : u2.cell? ⟨g0, 0, none⟩ = some (.int .i64 a0) := HV2.out.head.cell 0
    have e1 : u2.cell? ⟨g0, 1, none⟩ = some (.int .i64 a1) := HV2.out.head.cell 1
    have e2 : u2.cell? ⟨g0, 2, none⟩ = some (.int .i64 a2) := HV2.out.head.cell 2
    have e3 : u2.cell? ⟨g0, 3, none⟩ = some (.int .i64 a3) := HV2.out.head.cell 3
    have e4 : u2.cell? ⟨g0, 4, none⟩ = some (.slice A n c) := HV2.out.head.cell 4
    by_cases hm1 : s.size ≤ 1000
    · have hm2 : decide ((1000 : Int) < (s.size : Int)) = false := decide_eq_false (by omega)
      have HFI := Lib.hid (fun u (hu : Below w.heap.size w u) => rfind_ok (.int .i64 a0) (.int .i64 a1) (.int .i64 a2) (.int .i64 a3) A ts n c s u (HRT.out.on hu) HN.out (by have h1 := HMX.out; have h2 := HCP.out; rw [HN.out] at h2; omega))
      have HFN := Lib.hid (find_num HTN.out (HTE.out (by first | rfl | trivial)) s)
      obtain ⟨⟨⟨yn, ya, yb, ynl, ykl⟩, yAn, ycn, yAk, yck⟩, hy⟩ : ∃ y, (fT s ts).getD zeroTv = y := ⟨_, rfl⟩
      obtain ⟨is, his⟩ : ∃ is, (fT s ts).isSome = is := ⟨_, rfl⟩
      obtain ⟨F, hF⟩ : ∃ F, gtF tn s = F := ⟨_, rfl⟩
      rw [hy, his] at HFI
      rw [hy, his, hF] at HFN
      obtain ⟨M1, hM1⟩ : ∃ M1, mxO F 1 = M1 := ⟨_, rfl⟩
      obtain ⟨M2, hM2⟩ : ∃ M2, mxO F 2 = M2 := ⟨_, rfl⟩
      obtain ⟨f1, f2, f3, f4, f5, f6⟩ := HFN.out
      dsimp only at f1 f2
      rw [hM1] at f1 f4
      rw [hM2] at f2 f5
      subst f1 f2
      have HM0 := Lib.hid (show is = false → M1 = 0 from fun hi => by have := f6 1 (f3 ▸ hi); omega)
      have HIS := Lib.hid (show F.isSome = is from f3.symm)
      have hM8 : M1 ≤ 8 := by omega
      have HM := Lib.hid (show mxO F 1 = M1 by omega)
      have HTK := Lib.hid (show ∀ U u L, Lg w tn [⟨g, mb, lo, hi, gs, U⟩] L u → Calls Try.prog 18 #[.pointer (some ⟨g, 0, none⟩), .string s, .int .i64 1] u fun e u' => e = .returned (.int .i64 (tkI F (U s 1) 1)) ∧ Lg w tn [⟨g, mb, lo, hi, gs, tkU F U s 1⟩] L u' from fun U u L hu => by have := lg_take hu s 1 (by omega); rwa [hF] at this)
      have HGV := Lib.hid (show ∀ U u L, Lg w tn [⟨g, mb, lo, hi, gs, U⟩] L u → Calls Try.prog 14 #[.pointer (some ⟨g, 0, none⟩), .string s, .int .i64 1] u fun e u' => e = .returned (.bool (gvB U s 1)) ∧ Lg w tn [⟨g, mb, lo, hi, gs, gvU U s 1⟩] L u' from fun U u L hu => lg_give hu s 1 (by omega))
      have HUS := Lib.hid (show ∀ U u L, Lg w tn [⟨g, mb, lo, hi, gs, U⟩] L u → Calls Try.prog 20 #[.pointer (some ⟨g, 0, none⟩), .string s, .int .i64 1] u fun e u' => e = .returned (.int .i64 (U s 1 : Int)) ∧ Lg w tn [⟨g, mb, lo, hi, gs, U⟩] L u' from fun U u L hu => lg_used hu s 1 (by omega))
      simp only [tcs] at HFI
      clear hy his hF hM1 hM2 f3 f4 f5 f6 HFN HN0 HN1 HTE HTN
      go_upto_region 6 with (first
        | (go_at_call 10; (with_reducible refine (HGR.out _ HV2.out.l).mono ?_); rintro e u3 ⟨gr, rfl, _, hb⟩; have HV3 := Lib.hid (HV2.out.on hb); clear hb; clear e0 e1 e2 e3 e4; have e0 : u3.cell? ⟨g0, 0, none⟩ = some (.int .i64 a0) := HV3.out.head.cell 0; have e1 : u3.cell? ⟨g0, 1, none⟩ = some (.int .i64 a1) := HV3.out.head.cell 1; have e2 : u3.cell? ⟨g0, 2, none⟩ = some (.int .i64 a2) := HV3.out.head.cell 2; have e3 : u3.cell? ⟨g0, 3, none⟩ = some (.int .i64 a3) := HV3.out.head.cell 3; have e4 : u3.cell? ⟨g0, 4, none⟩ = some (.slice A n c) := HV3.out.head.cell 4; cases gr)
        | (go_at_call 22; (with_reducible refine (HFI.out _ HV3.out.l).mono ?_); rintro e u4 ⟨rfl, hb⟩; have HV4 := Lib.hid ((HV3.out.on hb).new 45 #[.string yn, .int .i64 (M1 : Int), .int .i64 (M2 : Int), .slice yAn ynl.length ycn, .slice yAk ykl.length yck] (by decide)); clear hb))
      any_goals (go_ret; exact ⟨rfl, HV3.out.l⟩)
      clear e0 e1 e2 e3 e4
      obtain ⟨wb, hwb⟩ : ∃ wb, u4.alloc (.cells #[.string yn, .int .i64 (M1 : Int), .int .i64 (M2 : Int), .slice yAn ynl.length ycn, .slice yAk ykl.length yck] 45) = wb := ⟨_, rfl⟩
      rw [hwb] at HV4 ⊢
      have t1 : wb.cell? ⟨u4.heap.size, 1, none⟩ = some (.int .i64 (M1 : Int)) := HV4.out.head.cell 1
      have t2 : wb.cell? ⟨u4.heap.size, 2, none⟩ = some (.int .i64 (M2 : Int)) := HV4.out.head.cell 2
      clear hwb
      go_wp2_with fail
      clear t1 t2
      go_loopw [12, 13] (fun v12 v13 wr => ∃ (i nn : Nat) (U : Us), i ≤ 20 ∧ nn ≤ 8 ∧ v12 = .int .i64 (nn : Int) ∧ v13 = .int .i64 (i : Int) ∧ Hid (nn = min i M1 ∧ U s 1 = nn) ∧ Hid (Lg w tn [⟨g, mb, lo, hi, gs, U⟩] [] wr)) (fun _ v13 _ => 20 - (intOf v13).toNat)
      case atStart => exact ⟨0, 0, U0, by omega, by omega, rfl, rfl, Lib.hid ⟨by omega, rfl⟩, Lib.hid ((HV4.out.less (L' := []) (fun b hb => by cases hb)))⟩
      case round =>
        obtain ⟨i, nn, U, hi0, hnn, rfl, rfl, HQ, HP⟩ := hrel
        have HTU := Lib.hid (HTK.out U wr [] HP.out)
        by_cases hi1 : i < 20
        · have hi2 : (i : Int) < 20 := by omega
          cases is with
          | false =>
            have H0 := Lib.hid (HM0.out rfl)
            have HT3 := Lib.hid (tk_none (U := U) (s := s) (k := 1) rfl HIS.out)
            rw [HT3.out.1, HT3.out.2] at HTU
            go_wp2_with (go_at_call 18; (with_reducible refine HTU.out.mono ?_); rintro e u5 ⟨rfl, hv⟩; have HV5 := Lib.hid hv; clear hv)
            go_roundw
            case rel => exact ⟨i + 1, nn, U, by omega, hnn, rfl, by go_num, Lib.hid ⟨by have := HQ.out.1; have := H0.out; omega, HQ.out.2⟩, HV5⟩
            case measure => simp [intOf]; omega
          | true =>
            by_cases hiM : i < M1
            · have hiM2 : (i : Int) < (M1 : Int) := by omega
              have hnM : nn = i := by have := HQ.out.1; omega
              subst hnM
              have hle : ((nn : Int) + 1) ≤ (M1 : Int) := by omega
              have hle2 : nn + 1 ≤ M1 := by omega
              have HT3 := Lib.hid (tk_yes (U := U) (s := s) (k := 1) rfl HIS.out (by rw [HM.out, HQ.out.2]; exact hiM))
              rw [HT3.out.1, HT3.out.2, HQ.out.2] at HTU
              go_wp2_with (go_at_call 18; (with_reducible refine HTU.out.mono ?_); rintro e u5 ⟨rfl, hv⟩; have HV5 := Lib.hid hv; clear hv)
              go_roundw
              case rel => exact ⟨nn + 1, nn + 1, _, by omega, by omega, by go_num, by go_num, Lib.hid ⟨by omega, stU_same _ _ _ _⟩, HV5⟩
              case measure => simp [intOf]; omega
            · have hiM2 : ¬ (i : Int) < (M1 : Int) := by omega
              have hnM : nn = M1 := by have := HQ.out.1; omega
              subst hnM
              have HT3 := Lib.hid (tk_full (U := U) (s := s) (k := 1) rfl HIS.out (by rw [HM.out, HQ.out.2]; omega))
              rw [HT3.out.1, HT3.out.2] at HTU
              go_wp2_with (go_at_call 18; (with_reducible refine HTU.out.mono ?_); rintro e u5 ⟨rfl, hv⟩; have HV5 := Lib.hid hv; clear hv)
              go_roundw
              case rel => exact ⟨i + 1, _, U, by omega, hnn, rfl, by go_num, Lib.hid ⟨by omega, HQ.out.2⟩, HV5⟩
              case measure => simp [intOf]; omega
        · have hi2 : ¬ (i : Int) < 20 := by omega
          have hnM : nn = M1 := by have := HQ.out.1; omega
          subst hnM
          clear HTU
          go_wp2_with fail
          go_loopw [15, 16] (fun v15 v16 wz => ∃ (j kk : Nat) (V : Us), j ≤ 20 ∧ kk ≤ nn ∧ v15 = .int .i64 (kk : Int) ∧ v16 = .int .i64 (j : Int) ∧ Hid (kk = min j nn ∧ V s 1 = nn - kk) ∧ Hid (Lg w tn [⟨g, mb, lo, hi, gs, V⟩] [] wz)) (fun _ v16 _ => 20 - (intOf v16).toNat)
          case atStart => exact ⟨0, 0, U, by omega, by omega, rfl, rfl, Lib.hid ⟨by omega, HQ.out.2⟩, HP⟩
          case round =>
            obtain ⟨j, kk, V, hj, hkk, rfl, rfl, HQ2, HP2⟩ := hrel
            by_cases hj1 : j < 20
            · have hj2 : (j : Int) < 20 := by omega
              have HTU := Lib.hid (HGV.out V _ [] HP2.out)
              by_cases hjM : j < nn
              · have hq : gvB V s 1 = true := by unfold gvB; rw [HQ2.out.2]; have := HQ2.out.1; exact decide_eq_true (by omega)
                rw [hq] at HTU
                clear hq
                go_wp2_with (go_at_call 14; (with_reducible refine HTU.out.mono ?_); rintro e u5 ⟨rfl, hv⟩; have HV5 := Lib.hid hv; clear hv)
                go_roundw
                case rel => exact ⟨j + 1, kk + 1, _, by omega, by have := HQ2.out.1; omega, by go_num, by go_num, Lib.hid ⟨by have := HQ2.out.1; omega, by unfold gvU; rw [stU_same, HQ2.out.2]; omega⟩, HV5⟩
                case measure => simp [intOf]; omega
              · have hq : gvB V s 1 = false := by unfold gvB; rw [HQ2.out.2]; have := HQ2.out.1; exact decide_eq_false (by omega)
                rw [hq] at HTU
                clear hq
                go_wp2_with (go_at_call 14; (with_reducible refine HTU.out.mono ?_); rintro e u5 ⟨rfl, hv⟩; have HV5 := Lib.hid hv; clear hv)
                go_roundw
                case rel => exact ⟨j + 1, kk, _, by omega, hkk, rfl, by go_num, Lib.hid ⟨by have := HQ2.out.1; omega, by unfold gvU; rw [stU_same, HQ2.out.2]; have := HQ2.out.1; omega⟩, HV5⟩
                case measure => simp [intOf]; omega
            · have hj2 : ¬ (j : Int) < 20 := by omega
              have hkM : kk = nn := by have := HQ2.out.1; omega
              subst hkM
              have HTU := Lib.hid (HUS.out V _ [] HP2.out)
              have hq : V s 1 = 0 := by rw [HQ2.out.2]; omega
              rw [hq] at HTU
              clear hq
              go_wp2_with (go_at_call 20; (with_reducible refine HTU.out.mono ?_); rintro e u5 ⟨rfl, hv⟩; have HV5 := Lib.hid hv; clear hv)
              go_ret
              exact ⟨by first | rfl | simp, HV5.out.l⟩
    · have hm2 : decide ((1000 : Int) < (s.size : Int)) = true := decide_eq_true (by omega)
      go_wp2_with (go_at_call 10; (with_reducible refine (HGR.out _ HV2.out.l).mono ?_); rintro e u3 ⟨gr, rfl, _, hb⟩; have HV3 := Lib.hid (HV2.out.on hb); clear hb; cases gr)
      all_goals go_ret
      all_goals exact ⟨rfl, HV3.out.l⟩

set_option maxRecDepth 100000 in
set_option maxHeartbeats 16000000 in
theorem fill_2 (x : Cv) (s : ByteArray) (w : World) (h : InCf w x) (hs : s.size ≤ 140737488355328) :
    Calls Try.prog 7 #[.agg (ccs x), .string s, .int .i64 2] w fun e w' => e = .returned (.bool true) ∧ Below w.heap.size w w' := by
  have HGR := Lib.hid (fun u (hu : Below w.heap.size w u) => great_ok x u (h.onG hu))
  have HN0 := Lib.hid (fun (hc : cfgB x.cg = false) => gnew_no h.rc hc)
  have HN1 := Lib.hid (fun (hc : cfgB x.cg = true) => gnew_yes h.rc hc)
  have HRT := Lib.hid h.rc.r
  have HMX := Lib.hid h.rc.f.max
  have HCP := Lib.hid h.rc.f.cap
  have HTE := Lib.hid (fun (hc : cfgB x.cg = true) => (cfgB_parts hc).2.2.2.2.2.2)
  have HTN := Lib.hid (show ∀ s, (fT s x.ts).map (·.t) = gtF x.cg.tens s from fun s => gtF_tens s x.ts)
  obtain ⟨C, hC⟩ : ∃ C, cfgB x.cg = C := ⟨_, rfl⟩
  simp only [hC] at HN0 HN1 HTE
  obtain ⟨tn, htn⟩ : ∃ tn, x.cg.tens = tn := ⟨_, rfl⟩
  rw [htn] at HN1 HTE HTN
  obtain ⟨a0, a1, a2, a3, ts, A, c⟩ := x
  obtain ⟨n, hn⟩ : ∃ n, ts.length = n := ⟨_, rfl⟩
  have HN := Lib.hid hn
  dsimp only at HRT HMX HCP HTN
  simp only [ccs, hn] at HGR HN0 HN1 ⊢
  have HX := Lib.hid (show Bx w w.heap.size 24 #[.int .i64 a0, .int .i64 a1, .int .i64 a2, .int .i64 a3, .slice A n c] (w.alloc (.cells #[.int .i64 a0, .int .i64 a1, .int .i64 a2, .int .i64 a3, .slice A n c] 24)) from Bx.new w _ _)
  clear h hn hC htn
  go_enter Try.func7, Try.ntmps7
  go_upto_region 2 with (go_at_call 9; refine (ghead_ok _).mono ?_; rintro e u1 ⟨rfl, hb⟩; have HX1 := Lib.hid (HX.out.on hb); clear hb)
  obtain ⟨g0, hg0⟩ : ∃ g, w.heap.size = g := ⟨_, rfl⟩
  have HG0 := Lib.hid hg0
  rw [hg0] at HX1 ⊢
  clear hg0
  have e0 : u1.cell? ⟨g0, 0, none⟩ = some (.int .i64 a0) := HX1.out.b.cell 0
  have e1 : u1.cell? ⟨g0, 1, none⟩ = some (.int .i64 a1) := HX1.out.b.cell 1
  have e2 : u1.cell? ⟨g0, 2, none⟩ = some (.int .i64 a2) := HX1.out.b.cell 2
  have e3 : u1.cell? ⟨g0, 3, none⟩ = some (.int .i64 a3) := HX1.out.b.cell 3
  have e4 : u1.cell? ⟨g0, 4, none⟩ = some (.slice A n c) := HX1.out.b.cell 4
  cases C with
  | false =>
    go_wp2_with (go_at_call 12; (with_reducible refine (HN0.out (by first | rfl | trivial) _ HX1.out.l).mono ?_); rintro e u2 ⟨rfl, hb⟩; have HX2 := Lib.hid (HX1.out.on hb); clear hb)
    go_ret
    exact ⟨rfl, HX2.out.l⟩
  | true =>
    have HL0 := Lib.hid (show Lg w tn [] [(g0, 24, #[.int .i64 a0, .int .i64 a1, .int .i64 a2, .int .i64 a3, .slice A n c])] u1 from ⟨(fun G hG => by cases hG), .nil, (fun b hb => by obtain rfl := List.mem_singleton.1 hb; exact ⟨HX1.out.b, gcfg_ne⟩), HX1.out.l⟩)
    go_upto_region 3 with (go_at_call 12; (with_reducible refine (HN1.out (by first | rfl | trivial) _ _ _ HL0.out).mono ?_); rintro e u2 ⟨g, mb, lo, hi, gs, rfl, hv⟩; have HV2 := Lib.hid hv; clear hv)
    clear e0 e1 e2 e3 e4
    have e0 : u2.cell? ⟨g0, 0, none⟩ = some (.int .i64 a0) := HV2.out.head.cell 0
    have e1 : u2.cell? ⟨g0, 1, none⟩ = some (.int .i64 a1) := HV2.out.head.cell 1
    have e2 : u2.cell? ⟨g0, 2, none⟩ = some (.int .i64 a2) := HV2.out.head.cell 2
    have e3 : u2.cell? ⟨g0, 3, none⟩ = some (.int .i64 a3) := HV2.out.head.cell 3
    have e4 : u2.cell? ⟨g0, 4, none⟩ = some (.slice A n c) := HV2.out.head.cell 4
    by_cases hm1 : s.size ≤ 1000
    · have hm2 : decide ((1000 : Int) < (s.size : Int)) = false := decide_eq_false (by omega)
      have HFI := Lib.hid (fun u (hu : Below w.heap.size w u) => rfind_ok (.int .i64 a0) (.int .i64 a1) (.int .i64 a2) (.int .i64 a3) A ts n c s u (HRT.out.on hu) HN.out (by have h1 := HMX.out; have h2 := HCP.out; rw [HN.out] at h2; omega))
      have HFN := Lib.hid (find_num HTN.out (HTE.out (by first | rfl | trivial)) s)
      obtain ⟨⟨⟨yn, ya, yb, ynl, ykl⟩, yAn, ycn, yAk, yck⟩, hy⟩ : ∃ y, (fT s ts).getD zeroTv = y := ⟨_, rfl⟩
      obtain ⟨is, his⟩ : ∃ is, (fT s ts).isSome = is := ⟨_, rfl⟩
      obtain ⟨F, hF⟩ : ∃ F, gtF tn s = F := ⟨_, rfl⟩
      rw [hy, his] at HFI
      rw [hy, his, hF] at HFN
      obtain ⟨M1, hM1⟩ : ∃ M1, mxO F 1 = M1 := ⟨_, rfl⟩
      obtain ⟨M2, hM2⟩ : ∃ M2, mxO F 2 = M2 := ⟨_, rfl⟩
      obtain ⟨f1, f2, f3, f4, f5, f6⟩ := HFN.out
      dsimp only at f1 f2
      rw [hM1] at f1 f4
      rw [hM2] at f2 f5
      subst f1 f2
      have HM0 := Lib.hid (show is = false → M2 = 0 from fun hi => by have := f6 2 (f3 ▸ hi); omega)
      have HIS := Lib.hid (show F.isSome = is from f3.symm)
      have hM8 : M2 ≤ 8 := by omega
      have HM := Lib.hid (show mxO F 2 = M2 by omega)
      have HTK := Lib.hid (show ∀ U u L, Lg w tn [⟨g, mb, lo, hi, gs, U⟩] L u → Calls Try.prog 18 #[.pointer (some ⟨g, 0, none⟩), .string s, .int .i64 2] u fun e u' => e = .returned (.int .i64 (tkI F (U s 2) 2)) ∧ Lg w tn [⟨g, mb, lo, hi, gs, tkU F U s 2⟩] L u' from fun U u L hu => by have := lg_take hu s 2 (by omega); rwa [hF] at this)
      have HGV := Lib.hid (show ∀ U u L, Lg w tn [⟨g, mb, lo, hi, gs, U⟩] L u → Calls Try.prog 14 #[.pointer (some ⟨g, 0, none⟩), .string s, .int .i64 2] u fun e u' => e = .returned (.bool (gvB U s 2)) ∧ Lg w tn [⟨g, mb, lo, hi, gs, gvU U s 2⟩] L u' from fun U u L hu => lg_give hu s 2 (by omega))
      have HUS := Lib.hid (show ∀ U u L, Lg w tn [⟨g, mb, lo, hi, gs, U⟩] L u → Calls Try.prog 20 #[.pointer (some ⟨g, 0, none⟩), .string s, .int .i64 2] u fun e u' => e = .returned (.int .i64 (U s 2 : Int)) ∧ Lg w tn [⟨g, mb, lo, hi, gs, U⟩] L u' from fun U u L hu => lg_used hu s 2 (by omega))
      simp only [tcs] at HFI
      clear hy his hF hM1 hM2 f3 f4 f5 f6 HFN HN0 HN1 HTE HTN
      go_upto_region 6 with (first
        | (go_at_call 10; (with_reducible refine (HGR.out _ HV2.out.l).mono ?_); rintro e u3 ⟨gr, rfl, _, hb⟩; have HV3 := Lib.hid (HV2.out.on hb); clear hb; clear e0 e1 e2 e3 e4; have e0 : u3.cell? ⟨g0, 0, none⟩ = some (.int .i64 a0) := HV3.out.head.cell 0; have e1 : u3.cell? ⟨g0, 1, none⟩ = some (.int .i64 a1) := HV3.out.head.cell 1; have e2 : u3.cell? ⟨g0, 2, none⟩ = some (.int .i64 a2) := HV3.out.head.cell 2; have e3 : u3.cell? ⟨g0, 3, none⟩ = some (.int .i64 a3) := HV3.out.head.cell 3; have e4 : u3.cell? ⟨g0, 4, none⟩ = some (.slice A n c) := HV3.out.head.cell 4; cases gr)
        | (go_at_call 22; (with_reducible refine (HFI.out _ HV3.out.l).mono ?_); rintro e u4 ⟨rfl, hb⟩; have HV4 := Lib.hid ((HV3.out.on hb).new 45 #[.string yn, .int .i64 (M1 : Int), .int .i64 (M2 : Int), .slice yAn ynl.length ycn, .slice yAk ykl.length yck] (by decide)); clear hb))
      any_goals (go_ret; exact ⟨rfl, HV3.out.l⟩)
      clear e0 e1 e2 e3 e4
      obtain ⟨wb, hwb⟩ : ∃ wb, u4.alloc (.cells #[.string yn, .int .i64 (M1 : Int), .int .i64 (M2 : Int), .slice yAn ynl.length ycn, .slice yAk ykl.length yck] 45) = wb := ⟨_, rfl⟩
      rw [hwb] at HV4 ⊢
      have t1 : wb.cell? ⟨u4.heap.size, 1, none⟩ = some (.int .i64 (M1 : Int)) := HV4.out.head.cell 1
      have t2 : wb.cell? ⟨u4.heap.size, 2, none⟩ = some (.int .i64 (M2 : Int)) := HV4.out.head.cell 2
      clear hwb
      go_wp2_with fail
      clear t1 t2
      go_loopw [12, 13] (fun v12 v13 wr => ∃ (i nn : Nat) (U : Us), i ≤ 20 ∧ nn ≤ 8 ∧ v12 = .int .i64 (nn : Int) ∧ v13 = .int .i64 (i : Int) ∧ Hid (nn = min i M2 ∧ U s 2 = nn) ∧ Hid (Lg w tn [⟨g, mb, lo, hi, gs, U⟩] [] wr)) (fun _ v13 _ => 20 - (intOf v13).toNat)
      case atStart => exact ⟨0, 0, U0, by omega, by omega, rfl, rfl, Lib.hid ⟨by omega, rfl⟩, Lib.hid ((HV4.out.less (L' := []) (fun b hb => by cases hb)))⟩
      case round =>
        obtain ⟨i, nn, U, hi0, hnn, rfl, rfl, HQ, HP⟩ := hrel
        have HTU := Lib.hid (HTK.out U wr [] HP.out)
        by_cases hi1 : i < 20
        · have hi2 : (i : Int) < 20 := by omega
          cases is with
          | false =>
            have H0 := Lib.hid (HM0.out rfl)
            have HT3 := Lib.hid (tk_none (U := U) (s := s) (k := 2) rfl HIS.out)
            rw [HT3.out.1, HT3.out.2] at HTU
            go_wp2_with (go_at_call 18; (with_reducible refine HTU.out.mono ?_); rintro e u5 ⟨rfl, hv⟩; have HV5 := Lib.hid hv; clear hv)
            go_roundw
            case rel => exact ⟨i + 1, nn, U, by omega, hnn, rfl, by go_num, Lib.hid ⟨by have := HQ.out.1; have := H0.out; omega, HQ.out.2⟩, HV5⟩
            case measure => simp [intOf]; omega
          | true =>
            by_cases hiM : i < M2
            · have hiM2 : (i : Int) < (M2 : Int) := by omega
              have hnM : nn = i := by have := HQ.out.1; omega
              subst hnM
              have hle : ((nn : Int) + 1) ≤ (M2 : Int) := by omega
              have hle2 : nn + 1 ≤ M2 := by omega
              have HT3 := Lib.hid (tk_yes (U := U) (s := s) (k := 2) rfl HIS.out (by rw [HM.out, HQ.out.2]; exact hiM))
              rw [HT3.out.1, HT3.out.2, HQ.out.2] at HTU
              go_wp2_with (go_at_call 18; (with_reducible refine HTU.out.mono ?_); rintro e u5 ⟨rfl, hv⟩; have HV5 := Lib.hid hv; clear hv)
              go_roundw
              case rel => exact ⟨nn + 1, nn + 1, _, by omega, by omega, by go_num, by go_num, Lib.hid ⟨by omega, stU_same _ _ _ _⟩, HV5⟩
              case measure => simp [intOf]; omega
            · have hiM2 : ¬ (i : Int) < (M2 : Int) := by omega
              have hnM : nn = M2 := by have := HQ.out.1; omega
              subst hnM
              have HT3 := Lib.hid (tk_full (U := U) (s := s) (k := 2) rfl HIS.out (by rw [HM.out, HQ.out.2]; omega))
              rw [HT3.out.1, HT3.out.2] at HTU
              go_wp2_with (go_at_call 18; (with_reducible refine HTU.out.mono ?_); rintro e u5 ⟨rfl, hv⟩; have HV5 := Lib.hid hv; clear hv)
              go_roundw
              case rel => exact ⟨i + 1, _, U, by omega, hnn, rfl, by go_num, Lib.hid ⟨by omega, HQ.out.2⟩, HV5⟩
              case measure => simp [intOf]; omega
        · have hi2 : ¬ (i : Int) < 20 := by omega
          have hnM : nn = M2 := by have := HQ.out.1; omega
          subst hnM
          clear HTU
          go_wp2_with fail
          go_loopw [15, 16] (fun v15 v16 wz => ∃ (j kk : Nat) (V : Us), j ≤ 20 ∧ kk ≤ nn ∧ v15 = .int .i64 (kk : Int) ∧ v16 = .int .i64 (j : Int) ∧ Hid (kk = min j nn ∧ V s 2 = nn - kk) ∧ Hid (Lg w tn [⟨g, mb, lo, hi, gs, V⟩] [] wz)) (fun _ v16 _ => 20 - (intOf v16).toNat)
          case atStart => exact ⟨0, 0, U, by omega, by omega, rfl, rfl, Lib.hid ⟨by omega, HQ.out.2⟩, HP⟩
          case round =>
            obtain ⟨j, kk, V, hj, hkk, rfl, rfl, HQ2, HP2⟩ := hrel
            by_cases hj1 : j < 20
            · have hj2 : (j : Int) < 20 := by omega
              have HTU := Lib.hid (HGV.out V _ [] HP2.out)
              by_cases hjM : j < nn
              · have hq : gvB V s 2 = true := by unfold gvB; rw [HQ2.out.2]; have := HQ2.out.1; exact decide_eq_true (by omega)
                rw [hq] at HTU
                clear hq
                go_wp2_with (go_at_call 14; (with_reducible refine HTU.out.mono ?_); rintro e u5 ⟨rfl, hv⟩; have HV5 := Lib.hid hv; clear hv)
                go_roundw
                case rel => exact ⟨j + 1, kk + 1, _, by omega, by have := HQ2.out.1; omega, by go_num, by go_num, Lib.hid ⟨by have := HQ2.out.1; omega, by unfold gvU; rw [stU_same, HQ2.out.2]; omega⟩, HV5⟩
                case measure => simp [intOf]; omega
              · have hq : gvB V s 2 = false := by unfold gvB; rw [HQ2.out.2]; have := HQ2.out.1; exact decide_eq_false (by omega)
                rw [hq] at HTU
                clear hq
                go_wp2_with (go_at_call 14; (with_reducible refine HTU.out.mono ?_); rintro e u5 ⟨rfl, hv⟩; have HV5 := Lib.hid hv; clear hv)
                go_roundw
                case rel => exact ⟨j + 1, kk, _, by omega, hkk, rfl, by go_num, Lib.hid ⟨by have := HQ2.out.1; omega, by unfold gvU; rw [stU_same, HQ2.out.2]; have := HQ2.out.1; omega⟩, HV5⟩
                case measure => simp [intOf]; omega
            · have hj2 : ¬ (j : Int) < 20 := by omega
              have hkM : kk = nn := by have := HQ2.out.1; omega
              subst hkM
              have HTU := Lib.hid (HUS.out V _ [] HP2.out)
              have hq : V s 2 = 0 := by rw [HQ2.out.2]; omega
              rw [hq] at HTU
              clear hq
              go_wp2_with (go_at_call 20; (with_reducible refine HTU.out.mono ?_); rintro e u5 ⟨rfl, hv⟩; have HV5 := Lib.hid hv; clear hv)
              go_ret
              exact ⟨by first | rfl | simp, HV5.out.l⟩
    · have hm2 : decide ((1000 : Int) < (s.size : Int)) = true := decide_eq_true (by omega)
      go_wp2_with (go_at_call 10; (with_reducible refine (HGR.out _ HV2.out.l).mono ?_); rintro e u3 ⟨gr, rfl, _, hb⟩; have HV3 := Lib.hid (HV2.out.on hb); clear hb; cases gr)
      all_goals go_ret
      all_goals exact ⟨rfl, HV3.out.l⟩

theorem walk_GateFill (x : Cv) (s : ByteArray) (k : Int) (w : World) (h : InCf w x) (hs : s.size ≤ 140737488355328) (hk : (Lit.int .i64 k).wf = true) :
    Calls Try.prog 7 #[.agg (ccs x), .string s, .int .i64 k] w fun e w' => e = .returned (.bool true) ∧ Below w.heap.size w w' := by
  by_cases h1 : k = 1
  · subst h1; exact fill_1 x s w h hs
  · by_cases h2 : k = 2
    · subst h2; exact fill_2 x s w h hs
    · exact fill_no x s k w h hs h1 h2
end Go.Proofs.Ytcplebbaiambgaa
