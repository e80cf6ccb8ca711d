/- GateCounts: the walk. (Written by gen_gtcounts.py.) -/
import Derived.Test.YtcplebbaiambgaaG9
import Derived.Test.YtcplebbaiambgaaG13
namespace Go.Proofs.Ytcplebbaiambgaa
set_option linter.unusedVariables false
set_option maxRecDepth 100000
set_option linter.unusedSimpArgs false
open Go.RowKit

theorem cnt_give {U : Us} {s t : ByteArray} {k j : Int} (h : ¬ (t = s ∧ j = k)) : gvU U t j s k = U s k := by
  unfold gvU stU
  rw [if_neg]
  rintro ⟨h1, h2⟩
  exact h ⟨(nmEq_iff.1 h1).symm, h2.symm⟩
theorem cnt_take {U : Us} {s t : ByteArray} {k j : Int} {o : Option Tn} (h : ¬ (t = s ∧ j = k)) : tkU o U t j s k = U s k := by
  unfold tkU
  split
  · unfold stU
    rw [if_neg]
    rintro ⟨h1, h2⟩
    exact h ⟨(nmEq_iff.1 h1).symm, h2.symm⟩
  · rfl
theorem cnt_take1 {U : Us} {s : ByteArray} {k : Int} {o : Option Tn} (h : tkI o (U s k) k = 0) : tkU o U s k s k = U s k + 1 := by
  unfold tkU
  rw [if_pos h, stU_same]
theorem cnt_take0 {U : Us} {s : ByteArray} {k : Int} {o : Option Tn} (h : ¬ tkI o (U s k) k = 0) : tkU o U s k = U := by
  unfold tkU
  rw [if_neg h]

set_option maxRecDepth 100000 in
set_option maxHeartbeats 16000000 in
theorem cnt_1 (x : Cv) (B : Option Addr) (lo0 : List Go4) (d : Nat) (s : ByteArray) (w : World) (h : InCf w x) (ho : InG w B lo0 d) (hs : s.size ≤ 140737488355328) :
    Calls Try.prog 4 #[.agg (ccs x), .slice B lo0.length d, .string s, .int .i64 1] w fun e w' => e = .returned (.bool true) ∧ Below w.heap.size w w' := by
  have HGR := Lib.hid (fun u (hu : Below w.heap.size w u) => great_ok x u (h.onG hu))
  have HN0 := Lib.hid (fun (hc : cfgB x.cg = false) => gnew_no h.rc hc)
  have HN1 := Lib.hid (fun (hc : cfgB x.cg = true) => gnew_yes h.rc hc)
  have HRT := Lib.hid h.rc.r
  have HMX := Lib.hid h.rc.f.max
  have HCP := Lib.hid h.rc.f.cap
  have HTE := Lib.hid (fun (hc : cfgB x.cg = true) => (cfgB_parts hc).2.2.2.2.2.2)
  have HTN := Lib.hid (show ∀ s, (fT s x.ts).map (·.t) = gtF x.cg.tens s from fun s => gtF_tens s x.ts)
  have HGO := Lib.hid (fun u (hu : Below w.heap.size w u) => ggreat_ok B lo0 d u (ho.on hu))
  have HOP := Lib.hid ho
  obtain ⟨C, hC⟩ : ∃ C, cfgB x.cg = C := ⟨_, rfl⟩
  simp only [hC] at HN0 HN1 HTE
  obtain ⟨tn, htn⟩ : ∃ tn, x.cg.tens = tn := ⟨_, rfl⟩
  rw [htn] at HN1 HTE HTN
  obtain ⟨a0, a1, a2, a3, ts, A, c⟩ := x
  obtain ⟨n, hn⟩ : ∃ n, ts.length = n := ⟨_, rfl⟩
  have HN := Lib.hid hn
  dsimp only at HRT HMX HCP HTN
  simp only [ccs, hn] at HGR HN0 HN1 ⊢
  have HX := Lib.hid (show Bx w w.heap.size 24 #[.int .i64 a0, .int .i64 a1, .int .i64 a2, .int .i64 a3, .slice A n c] (w.alloc (.cells #[.int .i64 a0, .int .i64 a1, .int .i64 a2, .int .i64 a3, .slice A n c] 24)) from Bx.new w _ _)
  clear h hn hC htn
  obtain ⟨nl, hnl⟩ : ∃ k, lo0.length = k := ⟨_, rfl⟩
  have HNL := Lib.hid hnl
  have hnl47 : nl ≤ 140737488355328 := by rw [← hnl]; exact ho.n
  rw [hnl] at HGO ⊢
  clear hnl ho
  go_enter Try.func4, Try.ntmps4
  go_upto_region 2 with (go_at_call 9; refine (ghead_ok _).mono ?_; rintro e u1 ⟨rfl, hb⟩; have HX1 := Lib.hid (HX.out.on hb); clear hb)
  obtain ⟨g0, hg0⟩ : ∃ g, w.heap.size = g := ⟨_, rfl⟩
  have HG0 := Lib.hid hg0
  rw [hg0] at HX1 ⊢
  clear hg0
  have e0 : u1.cell? ⟨g0, 0, none⟩ = some (.int .i64 a0) := HX1.out.b.cell 0
  have e1 : u1.cell? ⟨g0, 1, none⟩ = some (.int .i64 a1) := HX1.out.b.cell 1
  have e2 : u1.cell? ⟨g0, 2, none⟩ = some (.int .i64 a2) := HX1.out.b.cell 2
  have e3 : u1.cell? ⟨g0, 3, none⟩ = some (.int .i64 a3) := HX1.out.b.cell 3
  have e4 : u1.cell? ⟨g0, 4, none⟩ = some (.slice A n c) := HX1.out.b.cell 4
  cases C with
  | false =>
    go_wp2_with (go_at_call 12; (with_reducible refine (HN0.out (by first | rfl | trivial) _ HX1.out.l).mono ?_); rintro e u2 ⟨rfl, hb⟩; have HX2 := Lib.hid (HX1.out.on hb); clear hb)
    go_ret
    exact ⟨rfl, HX2.out.l⟩
  | true =>
    have HL0 := Lib.hid (show Lg w tn [] [(g0, 24, #[.int .i64 a0, .int .i64 a1, .int .i64 a2, .int .i64 a3, .slice A n c])] u1 from ⟨(fun G hG => by cases hG), .nil, (fun b hb => by obtain rfl := List.mem_singleton.1 hb; exact ⟨HX1.out.b, gcfg_ne⟩), HX1.out.l⟩)
    go_upto_region 3 with (go_at_call 12; (with_reducible refine (HN1.out (by first | rfl | trivial) _ _ _ HL0.out).mono ?_); rintro e u2 ⟨g, mb, lo, hi, gs, rfl, hv⟩; have HV2 := Lib.hid hv; clear hv)
    clear e0 e1 e2 e3 e4
    have e0 : u2.cell? ⟨g0, 0, none⟩ = some (.int .i64 a0) := HV2.out.head.cell 0
    have e1 : u2.cell? ⟨g0, 1, none⟩ = some (.int .i64 a1) := HV2.out.head.cell 1
    have e2 : u2.cell? ⟨g0, 2, none⟩ = some (.int .i64 a2) := HV2.out.head.cell 2
    have e3 : u2.cell? ⟨g0, 3, none⟩ = some (.int .i64 a3) := HV2.out.head.cell 3
    have e4 : u2.cell? ⟨g0, 4, none⟩ = some (.slice A n c) := HV2.out.head.cell 4
    by_cases hm1 : s.size ≤ 1000
    · have hm2 : decide ((1000 : Int) < (s.size : Int)) = false := decide_eq_false (by omega)
      have HFI := Lib.hid (fun u (hu : Below w.heap.size w u) => rfind_ok (.int .i64 a0) (.int .i64 a1) (.int .i64 a2) (.int .i64 a3) A ts n c s u (HRT.out.on hu) HN.out (by have h1 := HMX.out; have h2 := HCP.out; rw [HN.out] at h2; omega))
      have HFN := Lib.hid (find_num HTN.out (HTE.out (by first | rfl | trivial)) s)
      obtain ⟨⟨⟨yn, ya, yb, ynl, ykl⟩, yAn, ycn, yAk, yck⟩, hy⟩ : ∃ y, (fT s ts).getD zeroTv = y := ⟨_, rfl⟩
      obtain ⟨is, his⟩ : ∃ is, (fT s ts).isSome = is := ⟨_, rfl⟩
      rw [hy, his] at HFI
      rw [hy, his] at HFN
      obtain ⟨M1, hM1⟩ : ∃ M1, mxO (gtF tn s) 1 = M1 := ⟨_, rfl⟩
      obtain ⟨M2, hM2⟩ : ∃ M2, mxO (gtF tn s) 2 = M2 := ⟨_, rfl⟩
      obtain ⟨f1, f2, f3, f4, f5, f6⟩ := HFN.out
      dsimp only at f1 f2
      rw [hM1] at f1 f4
      rw [hM2] at f2 f5
      subst f1 f2
      have HMX2 := Lib.hid (show mxO (gtF tn s) 1 = M1 from hM1)
      have HSZ := Lib.hid hs
      simp only [tcs] at HFI
      clear hy his hM1 hM2 f3 f4 f5 f6 HFN HN0 HN1 HTE HTN
      go_upto_region 6 with (first
        | (go_at_call 10; (with_reducible refine (HGR.out _ HV2.out.l).mono ?_); rintro e u3 ⟨gr, rfl, _, hb⟩; have HV3 := Lib.hid (HV2.out.on hb); clear hb; clear e0 e1 e2 e3 e4; have e0 : u3.cell? ⟨g0, 0, none⟩ = some (.int .i64 a0) := HV3.out.head.cell 0; have e1 : u3.cell? ⟨g0, 1, none⟩ = some (.int .i64 a1) := HV3.out.head.cell 1; have e2 : u3.cell? ⟨g0, 2, none⟩ = some (.int .i64 a2) := HV3.out.head.cell 2; have e3 : u3.cell? ⟨g0, 3, none⟩ = some (.int .i64 a3) := HV3.out.head.cell 3; have e4 : u3.cell? ⟨g0, 4, none⟩ = some (.slice A n c) := HV3.out.head.cell 4; cases gr)
        | (go_at_call 11; (with_reducible refine (HGO.out _ HV3.out.l).mono ?_); rintro e u4 ⟨gr2, rfl, hob, hb⟩; have HV4 := Lib.hid (HV3.out.on hb); have HOB := Lib.hid hob; clear hb hob; clear e0 e1 e2 e3 e4; have e0 : u4.cell? ⟨g0, 0, none⟩ = some (.int .i64 a0) := HV4.out.head.cell 0; have e1 : u4.cell? ⟨g0, 1, none⟩ = some (.int .i64 a1) := HV4.out.head.cell 1; have e2 : u4.cell? ⟨g0, 2, none⟩ = some (.int .i64 a2) := HV4.out.head.cell 2; have e3 : u4.cell? ⟨g0, 3, none⟩ = some (.int .i64 a3) := HV4.out.head.cell 3; have e4 : u4.cell? ⟨g0, 4, none⟩ = some (.slice A n c) := HV4.out.head.cell 4; cases gr2)
        | (go_at_call 22; (with_reducible refine (HFI.out _ HV4.out.l).mono ?_); rintro e u5 ⟨rfl, hb⟩; have HV5 := Lib.hid ((HV4.out.on hb).new 45 #[.string yn, .int .i64 (M1 : Int), .int .i64 (M2 : Int), .slice yAn ynl.length ycn, .slice yAk ykl.length yck] (by decide)); clear hb))
      any_goals (go_ret; first | exact ⟨rfl, HV3.out.l⟩ | exact ⟨rfl, HV4.out.l⟩)
      have hnb : nl ≤ 200 := by have := HOB.out (by first | rfl | trivial); rw [HNL.out] at this; exact this
      clear e0 e1 e2 e3 e4 HGR HGO HFI HOB
      obtain ⟨wb, hwb⟩ : ∃ wb, u5.alloc (.cells #[.string yn, .int .i64 (M1 : Int), .int .i64 (M2 : Int), .slice yAn ynl.length ycn, .slice yAk ykl.length yck] 45) = wb := ⟨_, rfl⟩
      rw [hwb] at HV5 ⊢
      have t1 : wb.cell? ⟨u5.heap.size, 1, none⟩ = some (.int .i64 (M1 : Int)) := HV5.out.head.cell 1
      have t2 : wb.cell? ⟨u5.heap.size, 2, none⟩ = some (.int .i64 (M2 : Int)) := HV5.out.head.cell 2
      clear hwb
      go_wp2_with fail
      clear t1 t2
      have HMF := Lib.hid (show ∃ M : Nat, M = M1 from ⟨_, rfl⟩)
      obtain ⟨M, hM⟩ : ∃ M, M1 = M := ⟨_, rfl⟩
      rw [hM] at HMX2
      try rw [hM]
      clear hM HMF
      go_loopw [14, 15] (fun v14 v15 wr => ∃ (i nn : Nat) (U : Us), i ≤ nl ∧ v14 = .int .i64 (nn : Int) ∧ v15 = .int .i64 (i : Int) ∧ Hid (U s 1 = nn) ∧ Hid (Lg w tn [⟨g, mb, lo, hi, gs, U⟩] [] wr)) (fun _ v15 _ => nl - (intOf v15).toNat)
      case atStart => exact ⟨0, 0, U0, by omega, rfl, rfl, Lib.hid rfl, Lib.hid (HV5.out.less (L' := []) (fun b hb => by cases hb))⟩
      case round =>
        obtain ⟨i, nn, U, hi0, rfl, rfl, HQ, HV⟩ := hrel
        have HN8 := Lib.hid (show nn ≤ 8 by have := HV.out.le8 s 1; rw [← HQ.out]; exact this)
        by_cases hi1 : i < nl
        · have hi2 : (i : Int) < (nl : Int) := by omega
          obtain ⟨b, o, x, rfl, hx, hsm, hc⟩ := HOP.out.at4 i (by rw [HNL.out]; exact hi1)
          obtain ⟨c0, c1, c2, c3⟩ := hc wr HV.out.l
          obtain ⟨xw, xt, xk, xa⟩ := x
          dsimp only at c0 c1 c2 c3
          have HSM := Lib.hid hsm
          clear hc hx hsm
          go_upto_region 16 with fail
          clear c0 c1 c2 c3
          have HVN := Lib.hid (HV.out.new 35 #[.int .i64 xw, .string xt, .int .i64 xk, .int .u32 (xa : Int)] (by decide))
          obtain ⟨v0, hv0⟩ : ∃ v, wr.alloc (.cells #[.int .i64 xw, .string xt, .int .i64 xk, .int .u32 (xa : Int)] 35) = v := ⟨_, rfl⟩
          obtain ⟨nb, hnb2⟩ : ∃ nb, wr.heap.size = nb := ⟨_, rfl⟩
          rw [hv0] at HVN ⊢
          rw [hnb2] at HVN ⊢
          clear hv0 hnb2
          have d0 : v0.cell? ⟨nb, 0, none⟩ = some (.int .i64 xw) := HVN.out.head.cell 0
          have d1 : v0.cell? ⟨nb, 1, none⟩ = some (.string xt) := HVN.out.head.cell 1
          have d2 : v0.cell? ⟨nb, 2, none⟩ = some (.int .i64 xk) := HVN.out.head.cell 2
          by_cases hq : xt = s
          · have hq2 : (xt.toList == s.toList) = true := by rw [hq]; exact beq_self_eq_true _
            by_cases hq3 : xk = 1
            · have hq4 : (xk == 1) = true := by rw [beq_iff_eq]; exact hq3
              have HO := Lib.hid (And.intro hq hq3)
              clear hq hq3
              by_cases hw : xw = 2
              · have hw2 : (xw == 2) = true := by rw [beq_iff_eq]; exact hw
                clear hw
                cases hE : gvB U xt xk with
                | true =>
                  have hpos : 0 < U xt xk := by unfold gvB at hE; simpa using hE
                  obtain ⟨n2, hn2⟩ : ∃ n2, nn = n2 + 1 := ⟨nn - 1, by have h1 := HQ.out; rw [HO.out.1, HO.out.2] at hpos; omega⟩
                  obtain ⟨U2, hU2⟩ : ∃ U2, gvU U xt xk = U2 := ⟨_, rfl⟩
                  have HQ2 := Lib.hid (show U2 s 1 = n2 by rw [← hU2, HO.out.1, HO.out.2]; unfold gvU; rw [stU_same, HQ.out]; omega)
                  subst hn2
                  have hn8 : n2 ≤ 8 := by have := HN8.out; omega
                  have HC1 := Lib.hid (show ∀ u, Lg w tn [⟨g, mb, lo, hi, gs, U⟩] ((nb, 35, #[.int .i64 xw, .string xt, .int .i64 xk, .int .u32 (xa : Int)]) :: []) u → Calls Try.prog 14 #[.pointer (some ⟨g, 0, none⟩), .string xt, .int .i64 xk] u fun e u' => e = .returned (.bool true) ∧ Lg w tn [⟨g, mb, lo, hi, gs, U2⟩] ((nb, 35, #[.int .i64 xw, .string xt, .int .i64 xk, .int .u32 (xa : Int)]) :: []) u' from fun u hu => by have := lg_give hu xt xk HSM.out.1; rwa [hE, hU2] at this)
                  clear hE hpos hU2
                  go_upto_region 23 with (go_at_call 14; (with_reducible refine (HC1.out _ HVN.out).mono ?_); rintro e u6 ⟨rfl, hv⟩; have HX := Lib.hid hv; clear hv d0 d1 d2)
                  have hle : (n2 : Int) ≤ (M : Int) := by have h1 : U2 s 1 ≤ _ := HX.out.lim s 1; rw [HMX2.out] at h1; have h2 := HQ2.out; omega
                  have hle2 : ¬ (M : Int) < (n2 : Int) := by omega
                  have hle3 : ¬ M < n2 := by omega
                  have hle4 : decide (M < n2) = false := decide_eq_false hle3
                  have hle5 : decide ((M : Int) < (n2 : Int)) = false := decide_eq_false hle2
                  have hnn : decide ((n2 : Int) < 0) = false := decide_eq_false (by omega)
                  have hnn2 : ¬ (n2 : Int) < 0 := by omega
                  have hne : ((n2 : Int) != (n2 : Int)) = false := bne_self_eq_false _
                  have HC3 := Lib.hid (show ∀ u, Lg w tn [⟨g, mb, lo, hi, gs, U2⟩] ((nb, 35, #[.int .i64 xw, .string xt, .int .i64 xk, .int .u32 (xa : Int)]) :: []) u → Calls Try.prog 20 #[.pointer (some ⟨g, 0, none⟩), .string s, .int .i64 1] u fun e u' => e = .returned (.int .i64 (n2 : Int)) ∧ Lg w tn [⟨g, mb, lo, hi, gs, U2⟩] ((nb, 35, #[.int .i64 xw, .string xt, .int .i64 xk, .int .u32 (xa : Int)]) :: []) u' from fun u hu => by have := lg_used hu s 1 HSZ.out; rwa [HQ2.out] at this)
                  go_wp2_with (go_at_call 20; (with_reducible refine (HC3.out _ HX.out).mono ?_); rintro e u7 ⟨rfl, hv⟩; have HX7 := Lib.hid hv; clear hv)
                  go_roundw
                  case rel => exact ⟨i + 1, n2, U2, by omega, by go_num, by go_num, HQ2, Lib.hid (HX7.out.less (L' := []) (fun b hb => by cases hb))⟩
                  case measure => simp [intOf]; omega
                | false =>
                  have hz : U xt xk = 0 := by unfold gvB at hE; have := of_decide_eq_false hE; omega
                  obtain ⟨n2, hn2⟩ : ∃ n2, n2 = nn := ⟨_, rfl⟩
                  obtain ⟨U2, hU2⟩ : ∃ U2, gvU U xt xk = U2 := ⟨_, rfl⟩
                  have HQ2 := Lib.hid (show U2 s 1 = n2 by rw [← hU2, gvU_zero hz, HQ.out]; exact hn2.symm)
                  subst hn2
                  have HC1 := Lib.hid (show ∀ u, Lg w tn [⟨g, mb, lo, hi, gs, U⟩] ((nb, 35, #[.int .i64 xw, .string xt, .int .i64 xk, .int .u32 (xa : Int)]) :: []) u → Calls Try.prog 14 #[.pointer (some ⟨g, 0, none⟩), .string xt, .int .i64 xk] u fun e u' => e = .returned (.bool false) ∧ Lg w tn [⟨g, mb, lo, hi, gs, U2⟩] ((nb, 35, #[.int .i64 xw, .string xt, .int .i64 xk, .int .u32 (xa : Int)]) :: []) u' from fun u hu => by have := lg_give hu xt xk HSM.out.1; rwa [hE, hU2] at this)
                  clear hE hz hU2
                  go_upto_region 23 with (go_at_call 14; (with_reducible refine (HC1.out _ HVN.out).mono ?_); rintro e u6 ⟨rfl, hv⟩; have HX := Lib.hid hv; clear hv d0 d1 d2)
                  have hle : (n2 : Int) ≤ (M : Int) := by have h1 : U2 s 1 ≤ _ := HX.out.lim s 1; rw [HMX2.out] at h1; have h2 := HQ2.out; omega
                  have hle2 : ¬ (M : Int) < (n2 : Int) := by omega
                  have hle3 : ¬ M < n2 := by omega
                  have hle4 : decide (M < n2) = false := decide_eq_false hle3
                  have hle5 : decide ((M : Int) < (n2 : Int)) = false := decide_eq_false hle2
                  have hnn : decide ((n2 : Int) < 0) = false := decide_eq_false (by omega)
                  have hnn2 : ¬ (n2 : Int) < 0 := by omega
                  have hne : ((n2 : Int) != (n2 : Int)) = false := bne_self_eq_false _
                  have HC3 := Lib.hid (show ∀ u, Lg w tn [⟨g, mb, lo, hi, gs, U2⟩] ((nb, 35, #[.int .i64 xw, .string xt, .int .i64 xk, .int .u32 (xa : Int)]) :: []) u → Calls Try.prog 20 #[.pointer (some ⟨g, 0, none⟩), .string s, .int .i64 1] u fun e u' => e = .returned (.int .i64 (n2 : Int)) ∧ Lg w tn [⟨g, mb, lo, hi, gs, U2⟩] ((nb, 35, #[.int .i64 xw, .string xt, .int .i64 xk, .int .u32 (xa : Int)]) :: []) u' from fun u hu => by have := lg_used hu s 1 HSZ.out; rwa [HQ2.out] at this)
                  go_wp2_with (go_at_call 20; (with_reducible refine (HC3.out _ HX.out).mono ?_); rintro e u7 ⟨rfl, hv⟩; have HX7 := Lib.hid hv; clear hv)
                  go_roundw
                  case rel => exact ⟨i + 1, n2, U2, by omega, by go_num, by go_num, HQ2, Lib.hid (HX7.out.less (L' := []) (fun b hb => by cases hb))⟩
                  case measure => simp [intOf]; omega
              · have hw2 : (xw == 2) = false := by rw [beq_eq_false_iff_ne]; exact hw
                by_cases hz : xw = 3
                · have hz2 : (xw != 3) = false := by rw [bne_eq_false_iff_eq]; exact hz
                  clear hw hz
                  obtain ⟨n2, hn2⟩ : ∃ n2, n2 = nn := ⟨_, rfl⟩
                  obtain ⟨U2, hU2⟩ : ∃ U2, U = U2 := ⟨_, rfl⟩
                  have HQ2 := Lib.hid (show U2 s 1 = n2 by rw [← hU2, HQ.out]; exact hn2.symm)
                  have HX := HVN
                  rw [hU2] at HX
                  subst hn2
                  clear hU2
                  go_upto_region 23 with fail
                  clear d0 d1 d2
                  have hle : (n2 : Int) ≤ (M : Int) := by have h1 : U2 s 1 ≤ _ := HX.out.lim s 1; rw [HMX2.out] at h1; have h2 := HQ2.out; omega
                  have hle2 : ¬ (M : Int) < (n2 : Int) := by omega
                  have hle3 : ¬ M < n2 := by omega
                  have hle4 : decide (M < n2) = false := decide_eq_false hle3
                  have hle5 : decide ((M : Int) < (n2 : Int)) = false := decide_eq_false hle2
                  have hnn : decide ((n2 : Int) < 0) = false := decide_eq_false (by omega)
                  have hnn2 : ¬ (n2 : Int) < 0 := by omega
                  have hne : ((n2 : Int) != (n2 : Int)) = false := bne_self_eq_false _
                  have HC3 := Lib.hid (show ∀ u, Lg w tn [⟨g, mb, lo, hi, gs, U2⟩] ((nb, 35, #[.int .i64 xw, .string xt, .int .i64 xk, .int .u32 (xa : Int)]) :: []) u → Calls Try.prog 20 #[.pointer (some ⟨g, 0, none⟩), .string s, .int .i64 1] u fun e u' => e = .returned (.int .i64 (n2 : Int)) ∧ Lg w tn [⟨g, mb, lo, hi, gs, U2⟩] ((nb, 35, #[.int .i64 xw, .string xt, .int .i64 xk, .int .u32 (xa : Int)]) :: []) u' from fun u hu => by have := lg_used hu s 1 HSZ.out; rwa [HQ2.out] at this)
                  go_wp2_with (go_at_call 20; (with_reducible refine (HC3.out _ HX.out).mono ?_); rintro e u7 ⟨rfl, hv⟩; have HX7 := Lib.hid hv; clear hv)
                  go_roundw
                  case rel => exact ⟨i + 1, n2, U2, by omega, by go_num, by go_num, HQ2, Lib.hid (HX7.out.less (L' := []) (fun b hb => by cases hb))⟩
                  case measure => simp [intOf]; omega
                · have hz2 : (xw != 3) = true := by rw [bne_iff_ne]; exact hz
                  clear hw hz
                  obtain ⟨E, hE⟩ : ∃ E, tkI (gtF tn xt) (U xt xk) xk = E := ⟨_, rfl⟩
                  by_cases h0 : E = 0
                  · have hEz : (E == 0) = true := by rw [beq_iff_eq]; exact h0
                    obtain ⟨U2, hU2⟩ : ∃ U2, tkU (gtF tn xt) U xt xk = U2 := ⟨_, rfl⟩
                    have HQ2 := Lib.hid (show U2 s 1 = nn + 1 by
                      have h1 := hE.trans h0
                      rw [HO.out.1, HO.out.2] at h1
                      rw [← hU2, HO.out.1, HO.out.2, cnt_take1 h1, HQ.out])
                    have hn8 : nn ≤ 8 := HN8.out
                    have HC1 := Lib.hid (show ∀ u, Lg w tn [⟨g, mb, lo, hi, gs, U⟩] ((nb, 35, #[.int .i64 xw, .string xt, .int .i64 xk, .int .u32 (xa : Int)]) :: []) u → Calls Try.prog 18 #[.pointer (some ⟨g, 0, none⟩), .string xt, .int .i64 xk] u fun e u' => e = .returned (.int .i64 E) ∧ Lg w tn [⟨g, mb, lo, hi, gs, U2⟩] ((nb, 35, #[.int .i64 xw, .string xt, .int .i64 xk, .int .u32 (xa : Int)]) :: []) u' from fun u hu => by have := lg_take hu xt xk HSM.out.1; rwa [hE, hU2] at this)
                    clear hE hU2 h0
                    go_upto_region 23 with (go_at_call 18; (with_reducible refine (HC1.out _ HVN.out).mono ?_); rintro e u6 ⟨rfl, hv⟩; have HX := Lib.hid hv; clear hv d0 d1 d2)
                    have hle : ((nn : Int) + 1) ≤ (M : Int) := by have h1 : U2 s 1 ≤ _ := HX.out.lim s 1; rw [HMX2.out] at h1; have h2 := HQ2.out; omega
                    have hle2 : ¬ (M : Int) < ((nn : Int) + 1) := by omega
                    have hle3 : ¬ M < (nn + 1) := by omega
                    have hle4 : decide (M < (nn + 1)) = false := decide_eq_false hle3
                    have hle5 : decide ((M : Int) < ((nn : Int) + 1)) = false := decide_eq_false hle2
                    have hnn : decide (((nn : Int) + 1) < 0) = false := decide_eq_false (by omega)
                    have hnn2 : ¬ ((nn : Int) + 1) < 0 := by omega
                    have hne : (((nn : Int) + 1) != ((nn : Int) + 1)) = false := bne_self_eq_false _
                    have HC3 := Lib.hid (show ∀ u, Lg w tn [⟨g, mb, lo, hi, gs, U2⟩] ((nb, 35, #[.int .i64 xw, .string xt, .int .i64 xk, .int .u32 (xa : Int)]) :: []) u → Calls Try.prog 20 #[.pointer (some ⟨g, 0, none⟩), .string s, .int .i64 1] u fun e u' => e = .returned (.int .i64 ((nn : Int) + 1)) ∧ Lg w tn [⟨g, mb, lo, hi, gs, U2⟩] ((nb, 35, #[.int .i64 xw, .string xt, .int .i64 xk, .int .u32 (xa : Int)]) :: []) u' from fun u hu => by have := lg_used hu s 1 HSZ.out; rwa [HQ2.out] at this)
                    go_wp2_with (go_at_call 20; (with_reducible refine (HC3.out _ HX.out).mono ?_); rintro e u7 ⟨rfl, hv⟩; have HX7 := Lib.hid hv; clear hv)
                    go_roundw
                    case rel => exact ⟨i + 1, (nn + 1), U2, by omega, by go_num, by go_num, HQ2, Lib.hid (HX7.out.less (L' := []) (fun b hb => by cases hb))⟩
                    case measure => simp [intOf]; omega
                  · have hEz : (E == 0) = false := by rw [beq_eq_false_iff_ne]; exact h0
                    obtain ⟨n2, hn2⟩ : ∃ n2, n2 = nn := ⟨_, rfl⟩
                    obtain ⟨U2, hU2⟩ : ∃ U2, tkU (gtF tn xt) U xt xk = U2 := ⟨_, rfl⟩
                    have HQ2 := Lib.hid (show U2 s 1 = n2 by rw [← hU2, cnt_take0 (by rw [hE]; exact h0), HQ.out]; exact hn2.symm)
                    subst hn2
                    have HC1 := Lib.hid (show ∀ u, Lg w tn [⟨g, mb, lo, hi, gs, U⟩] ((nb, 35, #[.int .i64 xw, .string xt, .int .i64 xk, .int .u32 (xa : Int)]) :: []) u → Calls Try.prog 18 #[.pointer (some ⟨g, 0, none⟩), .string xt, .int .i64 xk] u fun e u' => e = .returned (.int .i64 E) ∧ Lg w tn [⟨g, mb, lo, hi, gs, U2⟩] ((nb, 35, #[.int .i64 xw, .string xt, .int .i64 xk, .int .u32 (xa : Int)]) :: []) u' from fun u hu => by have := lg_take hu xt xk HSM.out.1; rwa [hE, hU2] at this)
                    clear hE hU2 h0
                    go_upto_region 23 with (go_at_call 18; (with_reducible refine (HC1.out _ HVN.out).mono ?_); rintro e u6 ⟨rfl, hv⟩; have HX := Lib.hid hv; clear hv d0 d1 d2)
                    have hle : (n2 : Int) ≤ (M : Int) := by have h1 : U2 s 1 ≤ _ := HX.out.lim s 1; rw [HMX2.out] at h1; have h2 := HQ2.out; omega
                    have hle2 : ¬ (M : Int) < (n2 : Int) := by omega
                    have hle3 : ¬ M < n2 := by omega
                    have hle4 : decide (M < n2) = false := decide_eq_false hle3
                    have hle5 : decide ((M : Int) < (n2 : Int)) = false := decide_eq_false hle2
                    have hnn : decide ((n2 : Int) < 0) = false := decide_eq_false (by omega)
                    have hnn2 : ¬ (n2 : Int) < 0 := by omega
                    have hne : ((n2 : Int) != (n2 : Int)) = false := bne_self_eq_false _
                    have HC3 := Lib.hid (show ∀ u, Lg w tn [⟨g, mb, lo, hi, gs, U2⟩] ((nb, 35, #[.int .i64 xw, .string xt, .int .i64 xk, .int .u32 (xa : Int)]) :: []) u → Calls Try.prog 20 #[.pointer (some ⟨g, 0, none⟩), .string s, .int .i64 1] u fun e u' => e = .returned (.int .i64 (n2 : Int)) ∧ Lg w tn [⟨g, mb, lo, hi, gs, U2⟩] ((nb, 35, #[.int .i64 xw, .string xt, .int .i64 xk, .int .u32 (xa : Int)]) :: []) u' from fun u hu => by have := lg_used hu s 1 HSZ.out; rwa [HQ2.out] at this)
                    go_wp2_with (go_at_call 20; (with_reducible refine (HC3.out _ HX.out).mono ?_); rintro e u7 ⟨rfl, hv⟩; have HX7 := Lib.hid hv; clear hv)
                    go_roundw
                    case rel => exact ⟨i + 1, n2, U2, by omega, by go_num, by go_num, HQ2, Lib.hid (HX7.out.less (L' := []) (fun b hb => by cases hb))⟩
                    case measure => simp [intOf]; omega
            · have hq4 : (xk == 1) = false := by rw [beq_eq_false_iff_ne]; exact hq3
              have HO := Lib.hid (show ¬ (xt = s ∧ xk = 1) from fun h => hq3 h.2)
              clear hq hq3
              by_cases hw : xw = 2
              · have hw2 : (xw == 2) = true := by rw [beq_iff_eq]; exact hw
                clear hw
                cases hE : gvB U xt xk with
                | true =>
                  have hpos : 0 < U xt xk := by unfold gvB at hE; simpa using hE
                  obtain ⟨n2, hn2⟩ : ∃ n2, n2 = nn := ⟨_, rfl⟩
                  obtain ⟨U2, hU2⟩ : ∃ U2, gvU U xt xk = U2 := ⟨_, rfl⟩
                  have HQ2 := Lib.hid (show U2 s 1 = n2 by rw [← hU2, cnt_give HO.out, HQ.out]; exact hn2.symm)
                  subst hn2
                  have HC1 := Lib.hid (show ∀ u, Lg w tn [⟨g, mb, lo, hi, gs, U⟩] ((nb, 35, #[.int .i64 xw, .string xt, .int .i64 xk, .int .u32 (xa : Int)]) :: []) u → Calls Try.prog 14 #[.pointer (some ⟨g, 0, none⟩), .string xt, .int .i64 xk] u fun e u' => e = .returned (.bool true) ∧ Lg w tn [⟨g, mb, lo, hi, gs, U2⟩] ((nb, 35, #[.int .i64 xw, .string xt, .int .i64 xk, .int .u32 (xa : Int)]) :: []) u' from fun u hu => by have := lg_give hu xt xk HSM.out.1; rwa [hE, hU2] at this)
                  clear hE hpos hU2
                  go_upto_region 23 with (go_at_call 14; (with_reducible refine (HC1.out _ HVN.out).mono ?_); rintro e u6 ⟨rfl, hv⟩; have HX := Lib.hid hv; clear hv d0 d1 d2)
                  have hle : (n2 : Int) ≤ (M : Int) := by have h1 : U2 s 1 ≤ _ := HX.out.lim s 1; rw [HMX2.out] at h1; have h2 := HQ2.out; omega
                  have hle2 : ¬ (M : Int) < (n2 : Int) := by omega
                  have hle3 : ¬ M < n2 := by omega
                  have hle4 : decide (M < n2) = false := decide_eq_false hle3
                  have hle5 : decide ((M : Int) < (n2 : Int)) = false := decide_eq_false hle2
                  have hnn : decide ((n2 : Int) < 0) = false := decide_eq_false (by omega)
                  have hnn2 : ¬ (n2 : Int) < 0 := by omega
                  have hne : ((n2 : Int) != (n2 : Int)) = false := bne_self_eq_false _
                  have HC3 := Lib.hid (show ∀ u, Lg w tn [⟨g, mb, lo, hi, gs, U2⟩] ((nb, 35, #[.int .i64 xw, .string xt, .int .i64 xk, .int .u32 (xa : Int)]) :: []) u → Calls Try.prog 20 #[.pointer (some ⟨g, 0, none⟩), .string s, .int .i64 1] u fun e u' => e = .returned (.int .i64 (n2 : Int)) ∧ Lg w tn [⟨g, mb, lo, hi, gs, U2⟩] ((nb, 35, #[.int .i64 xw, .string xt, .int .i64 xk, .int .u32 (xa : Int)]) :: []) u' from fun u hu => by have := lg_used hu s 1 HSZ.out; rwa [HQ2.out] at this)
                  go_wp2_with (go_at_call 20; (with_reducible refine (HC3.out _ HX.out).mono ?_); rintro e u7 ⟨rfl, hv⟩; have HX7 := Lib.hid hv; clear hv)
                  go_roundw
                  case rel => exact ⟨i + 1, n2, U2, by omega, by go_num, by go_num, HQ2, Lib.hid (HX7.out.less (L' := []) (fun b hb => by cases hb))⟩
                  case measure => simp [intOf]; omega
                | false =>
                  have hz : U xt xk = 0 := by unfold gvB at hE; have := of_decide_eq_false hE; omega
                  obtain ⟨n2, hn2⟩ : ∃ n2, n2 = nn := ⟨_, rfl⟩
                  obtain ⟨U2, hU2⟩ : ∃ U2, gvU U xt xk = U2 := ⟨_, rfl⟩
                  have HQ2 := Lib.hid (show U2 s 1 = n2 by rw [← hU2, gvU_zero hz, HQ.out]; exact hn2.symm)
                  subst hn2
                  have HC1 := Lib.hid (show ∀ u, Lg w tn [⟨g, mb, lo, hi, gs, U⟩] ((nb, 35, #[.int .i64 xw, .string xt, .int .i64 xk, .int .u32 (xa : Int)]) :: []) u → Calls Try.prog 14 #[.pointer (some ⟨g, 0, none⟩), .string xt, .int .i64 xk] u fun e u' => e = .returned (.bool false) ∧ Lg w tn [⟨g, mb, lo, hi, gs, U2⟩] ((nb, 35, #[.int .i64 xw, .string xt, .int .i64 xk, .int .u32 (xa : Int)]) :: []) u' from fun u hu => by have := lg_give hu xt xk HSM.out.1; rwa [hE, hU2] at this)
                  clear hE hz hU2
                  go_upto_region 23 with (go_at_call 14; (with_reducible refine (HC1.out _ HVN.out).mono ?_); rintro e u6 ⟨rfl, hv⟩; have HX := Lib.hid hv; clear hv d0 d1 d2)
                  have hle : (n2 : Int) ≤ (M : Int) := by have h1 : U2 s 1 ≤ _ := HX.out.lim s 1; rw [HMX2.out] at h1; have h2 := HQ2.out; omega
                  have hle2 : ¬ (M : Int) < (n2 : Int) := by omega
                  have hle3 : ¬ M < n2 := by omega
                  have hle4 : decide (M < n2) = false := decide_eq_false hle3
                  have hle5 : decide ((M : Int) < (n2 : Int)) = false := decide_eq_false hle2
                  have hnn : decide ((n2 : Int) < 0) = false := decide_eq_false (by omega)
                  have hnn2 : ¬ (n2 : Int) < 0 := by omega
                  have hne : ((n2 : Int) != (n2 : Int)) = false := bne_self_eq_false _
                  have HC3 := Lib.hid (show ∀ u, Lg w tn [⟨g, mb, lo, hi, gs, U2⟩] ((nb, 35, #[.int .i64 xw, .string xt, .int .i64 xk, .int .u32 (xa : Int)]) :: []) u → Calls Try.prog 20 #[.pointer (some ⟨g, 0, none⟩), .string s, .int .i64 1] u fun e u' => e = .returned (.int .i64 (n2 : Int)) ∧ Lg w tn [⟨g, mb, lo, hi, gs, U2⟩] ((nb, 35, #[.int .i64 xw, .string xt, .int .i64 xk, .int .u32 (xa : Int)]) :: []) u' from fun u hu => by have := lg_used hu s 1 HSZ.out; rwa [HQ2.out] at this)
                  go_wp2_with (go_at_call 20; (with_reducible refine (HC3.out _ HX.out).mono ?_); rintro e u7 ⟨rfl, hv⟩; have HX7 := Lib.hid hv; clear hv)
                  go_roundw
                  case rel => exact ⟨i + 1, n2, U2, by omega, by go_num, by go_num, HQ2, Lib.hid (HX7.out.less (L' := []) (fun b hb => by cases hb))⟩
                  case measure => simp [intOf]; omega
              · have hw2 : (xw == 2) = false := by rw [beq_eq_false_iff_ne]; exact hw
                by_cases hz : xw = 3
                · have hz2 : (xw != 3) = false := by rw [bne_eq_false_iff_eq]; exact hz
                  clear hw hz
                  obtain ⟨n2, hn2⟩ : ∃ n2, n2 = nn := ⟨_, rfl⟩
                  obtain ⟨U2, hU2⟩ : ∃ U2, U = U2 := ⟨_, rfl⟩
                  have HQ2 := Lib.hid (show U2 s 1 = n2 by rw [← hU2, HQ.out]; exact hn2.symm)
                  have HX := HVN
                  rw [hU2] at HX
                  subst hn2
                  clear hU2
                  go_upto_region 23 with fail
                  clear d0 d1 d2
                  have hle : (n2 : Int) ≤ (M : Int) := by have h1 : U2 s 1 ≤ _ := HX.out.lim s 1; rw [HMX2.out] at h1; have h2 := HQ2.out; omega
                  have hle2 : ¬ (M : Int) < (n2 : Int) := by omega
                  have hle3 : ¬ M < n2 := by omega
                  have hle4 : decide (M < n2) = false := decide_eq_false hle3
                  have hle5 : decide ((M : Int) < (n2 : Int)) = false := decide_eq_false hle2
                  have hnn : decide ((n2 : Int) < 0) = false := decide_eq_false (by omega)
                  have hnn2 : ¬ (n2 : Int) < 0 := by omega
                  have hne : ((n2 : Int) != (n2 : Int)) = false := bne_self_eq_false _
                  have HC3 := Lib.hid (show ∀ u, Lg w tn [⟨g, mb, lo, hi, gs, U2⟩] ((nb, 35, #[.int .i64 xw, .string xt, .int .i64 xk, .int .u32 (xa : Int)]) :: []) u → Calls Try.prog 20 #[.pointer (some ⟨g, 0, none⟩), .string s, .int .i64 1] u fun e u' => e = .returned (.int .i64 (n2 : Int)) ∧ Lg w tn [⟨g, mb, lo, hi, gs, U2⟩] ((nb, 35, #[.int .i64 xw, .string xt, .int .i64 xk, .int .u32 (xa : Int)]) :: []) u' from fun u hu => by have := lg_used hu s 1 HSZ.out; rwa [HQ2.out] at this)
                  go_wp2_with (go_at_call 20; (with_reducible refine (HC3.out _ HX.out).mono ?_); rintro e u7 ⟨rfl, hv⟩; have HX7 := Lib.hid hv; clear hv)
                  go_roundw
                  case rel => exact ⟨i + 1, n2, U2, by omega, by go_num, by go_num, HQ2, Lib.hid (HX7.out.less (L' := []) (fun b hb => by cases hb))⟩
                  case measure => simp [intOf]; omega
                · have hz2 : (xw != 3) = true := by rw [bne_iff_ne]; exact hz
                  clear hw hz
                  obtain ⟨E, hE⟩ : ∃ E, tkI (gtF tn xt) (U xt xk) xk = E := ⟨_, rfl⟩
                  by_cases h0 : E = 0
                  · have hEz : (E == 0) = true := by rw [beq_iff_eq]; exact h0
                    obtain ⟨n2, hn2⟩ : ∃ n2, n2 = nn := ⟨_, rfl⟩
                    obtain ⟨U2, hU2⟩ : ∃ U2, tkU (gtF tn xt) U xt xk = U2 := ⟨_, rfl⟩
                    have HQ2 := Lib.hid (show U2 s 1 = n2 by rw [← hU2, cnt_take HO.out, HQ.out]; exact hn2.symm)
                    subst hn2
                    have HC1 := Lib.hid (show ∀ u, Lg w tn [⟨g, mb, lo, hi, gs, U⟩] ((nb, 35, #[.int .i64 xw, .string xt, .int .i64 xk, .int .u32 (xa : Int)]) :: []) u → Calls Try.prog 18 #[.pointer (some ⟨g, 0, none⟩), .string xt, .int .i64 xk] u fun e u' => e = .returned (.int .i64 E) ∧ Lg w tn [⟨g, mb, lo, hi, gs, U2⟩] ((nb, 35, #[.int .i64 xw, .string xt, .int .i64 xk, .int .u32 (xa : Int)]) :: []) u' from fun u hu => by have := lg_take hu xt xk HSM.out.1; rwa [hE, hU2] at this)
                    clear hE hU2 h0
                    go_upto_region 23 with (go_at_call 18; (with_reducible refine (HC1.out _ HVN.out).mono ?_); rintro e u6 ⟨rfl, hv⟩; have HX := Lib.hid hv; clear hv d0 d1 d2)
                    have hle : (n2 : Int) ≤ (M : Int) := by have h1 : U2 s 1 ≤ _ := HX.out.lim s 1; rw [HMX2.out] at h1; have h2 := HQ2.out; omega
                    have hle2 : ¬ (M : Int) < (n2 : Int) := by omega
                    have hle3 : ¬ M < n2 := by omega
                    have hle4 : decide (M < n2) = false := decide_eq_false hle3
                    have hle5 : decide ((M : Int) < (n2 : Int)) = false := decide_eq_false hle2
                    have hnn : decide ((n2 : Int) < 0) = false := decide_eq_false (by omega)
                    have hnn2 : ¬ (n2 : Int) < 0 := by omega
                    have hne : ((n2 : Int) != (n2 : Int)) = false := bne_self_eq_false _
                    have HC3 := Lib.hid (show ∀ u, Lg w tn [⟨g, mb, lo, hi, gs, U2⟩] ((nb, 35, #[.int .i64 xw, .string xt, .int .i64 xk, .int .u32 (xa : Int)]) :: []) u → Calls Try.prog 20 #[.pointer (some ⟨g, 0, none⟩), .string s, .int .i64 1] u fun e u' => e = .returned (.int .i64 (n2 : Int)) ∧ Lg w tn [⟨g, mb, lo, hi, gs, U2⟩] ((nb, 35, #[.int .i64 xw, .string xt, .int .i64 xk, .int .u32 (xa : Int)]) :: []) u' from fun u hu => by have := lg_used hu s 1 HSZ.out; rwa [HQ2.out] at this)
                    go_wp2_with (go_at_call 20; (with_reducible refine (HC3.out _ HX.out).mono ?_); rintro e u7 ⟨rfl, hv⟩; have HX7 := Lib.hid hv; clear hv)
                    go_roundw
                    case rel => exact ⟨i + 1, n2, U2, by omega, by go_num, by go_num, HQ2, Lib.hid (HX7.out.less (L' := []) (fun b hb => by cases hb))⟩
                    case measure => simp [intOf]; omega
                  · have hEz : (E == 0) = false := by rw [beq_eq_false_iff_ne]; exact h0
                    obtain ⟨n2, hn2⟩ : ∃ n2, n2 = nn := ⟨_, rfl⟩
                    obtain ⟨U2, hU2⟩ : ∃ U2, tkU (gtF tn xt) U xt xk = U2 := ⟨_, rfl⟩
                    have HQ2 := Lib.hid (show U2 s 1 = n2 by rw [← hU2, cnt_take0 (by rw [hE]; exact h0), HQ.out]; exact hn2.symm)
                    subst hn2
                    have HC1 := Lib.hid (show ∀ u, Lg w tn [⟨g, mb, lo, hi, gs, U⟩] ((nb, 35, #[.int .i64 xw, .string xt, .int .i64 xk, .int .u32 (xa : Int)]) :: []) u → Calls Try.prog 18 #[.pointer (some ⟨g, 0, none⟩), .string xt, .int .i64 xk] u fun e u' => e = .returned (.int .i64 E) ∧ Lg w tn [⟨g, mb, lo, hi, gs, U2⟩] ((nb, 35, #[.int .i64 xw, .string xt, .int .i64 xk, .int .u32 (xa : Int)]) :: []) u' from fun u hu => by have := lg_take hu xt xk HSM.out.1; rwa [hE, hU2] at this)
                    clear hE hU2 h0
                    go_upto_region 23 with (go_at_call 18; (with_reducible refine (HC1.out _ HVN.out).mono ?_); rintro e u6 ⟨rfl, hv⟩; have HX := Lib.hid hv; clear hv d0 d1 d2)
                    have hle : (n2 : Int) ≤ (M : Int) := by have h1 : U2 s 1 ≤ _ := HX.out.lim s 1; rw [HMX2.out] at h1; have h2 := HQ2.out; omega
                    have hle2 : ¬ (M : Int) < (n2 : Int) := by omega
                    have hle3 : ¬ M < n2 := by omega
                    have hle4 : decide (M < n2) = false := decide_eq_false hle3
                    have hle5 : decide ((M : Int) < (n2 : Int)) = false := decide_eq_false hle2
                    have hnn : decide ((n2 : Int) < 0) = false := decide_eq_false (by omega)
                    have hnn2 : ¬ (n2 : Int) < 0 := by omega
                    have hne : ((n2 : Int) != (n2 : Int)) = false := bne_self_eq_false _
                    have HC3 := Lib.hid (show ∀ u, Lg w tn [⟨g, mb, lo, hi, gs, U2⟩] ((nb, 35, #[.int .i64 xw, .string xt, .int .i64 xk, .int .u32 (xa : Int)]) :: []) u → Calls Try.prog 20 #[.pointer (some ⟨g, 0, none⟩), .string s, .int .i64 1] u fun e u' => e = .returned (.int .i64 (n2 : Int)) ∧ Lg w tn [⟨g, mb, lo, hi, gs, U2⟩] ((nb, 35, #[.int .i64 xw, .string xt, .int .i64 xk, .int .u32 (xa : Int)]) :: []) u' from fun u hu => by have := lg_used hu s 1 HSZ.out; rwa [HQ2.out] at this)
                    go_wp2_with (go_at_call 20; (with_reducible refine (HC3.out _ HX.out).mono ?_); rintro e u7 ⟨rfl, hv⟩; have HX7 := Lib.hid hv; clear hv)
                    go_roundw
                    case rel => exact ⟨i + 1, n2, U2, by omega, by go_num, by go_num, HQ2, Lib.hid (HX7.out.less (L' := []) (fun b hb => by cases hb))⟩
                    case measure => simp [intOf]; omega
          · have hq2 : (xt.toList == s.toList) = false := by
              cases hh : (xt.toList == s.toList)
              · rfl
              · exact absurd (nmEq_iff.1 hh) hq
            have HO := Lib.hid (show ¬ (xt = s ∧ xk = 1) from fun h => hq h.1)
            clear hq
            by_cases hw : xw = 2
            · have hw2 : (xw == 2) = true := by rw [beq_iff_eq]; exact hw
              clear hw
              cases hE : gvB U xt xk with
              | true =>
                have hpos : 0 < U xt xk := by unfold gvB at hE; simpa using hE
                obtain ⟨n2, hn2⟩ : ∃ n2, n2 = nn := ⟨_, rfl⟩
                obtain ⟨U2, hU2⟩ : ∃ U2, gvU U xt xk = U2 := ⟨_, rfl⟩
                have HQ2 := Lib.hid (show U2 s 1 = n2 by rw [← hU2, cnt_give HO.out, HQ.out]; exact hn2.symm)
                subst hn2
                have HC1 := Lib.hid (show ∀ u, Lg w tn [⟨g, mb, lo, hi, gs, U⟩] ((nb, 35, #[.int .i64 xw, .string xt, .int .i64 xk, .int .u32 (xa : Int)]) :: []) u → Calls Try.prog 14 #[.pointer (some ⟨g, 0, none⟩), .string xt, .int .i64 xk] u fun e u' => e = .returned (.bool true) ∧ Lg w tn [⟨g, mb, lo, hi, gs, U2⟩] ((nb, 35, #[.int .i64 xw, .string xt, .int .i64 xk, .int .u32 (xa : Int)]) :: []) u' from fun u hu => by have := lg_give hu xt xk HSM.out.1; rwa [hE, hU2] at this)
                clear hE hpos hU2
                go_upto_region 23 with (go_at_call 14; (with_reducible refine (HC1.out _ HVN.out).mono ?_); rintro e u6 ⟨rfl, hv⟩; have HX := Lib.hid hv; clear hv d0 d1 d2)
                have hle : (n2 : Int) ≤ (M : Int) := by have h1 : U2 s 1 ≤ _ := HX.out.lim s 1; rw [HMX2.out] at h1; have h2 := HQ2.out; omega
                have hle2 : ¬ (M : Int) < (n2 : Int) := by omega
                have hle3 : ¬ M < n2 := by omega
                have hle4 : decide (M < n2) = false := decide_eq_false hle3
                have hle5 : decide ((M : Int) < (n2 : Int)) = false := decide_eq_false hle2
                have hnn : decide ((n2 : Int) < 0) = false := decide_eq_false (by omega)
                have hnn2 : ¬ (n2 : Int) < 0 := by omega
                have hne : ((n2 : Int) != (n2 : Int)) = false := bne_self_eq_false _
                have HC3 := Lib.hid (show ∀ u, Lg w tn [⟨g, mb, lo, hi, gs, U2⟩] ((nb, 35, #[.int .i64 xw, .string xt, .int .i64 xk, .int .u32 (xa : Int)]) :: []) u → Calls Try.prog 20 #[.pointer (some ⟨g, 0, none⟩), .string s, .int .i64 1] u fun e u' => e = .returned (.int .i64 (n2 : Int)) ∧ Lg w tn [⟨g, mb, lo, hi, gs, U2⟩] ((nb, 35, #[.int .i64 xw, .string xt, .int .i64 xk, .int .u32 (xa : Int)]) :: []) u' from fun u hu => by have := lg_used hu s 1 HSZ.out; rwa [HQ2.out] at this)
                go_wp2_with (go_at_call 20; (with_reducible refine (HC3.out _ HX.out).mono ?_); rintro e u7 ⟨rfl, hv⟩; have HX7 := Lib.hid hv; clear hv)
                go_roundw
                case rel => exact ⟨i + 1, n2, U2, by omega, by go_num, by go_num, HQ2, Lib.hid (HX7.out.less (L' := []) (fun b hb => by cases hb))⟩
                case measure => simp [intOf]; omega
              | false =>
                have hz : U xt xk = 0 := by unfold gvB at hE; have := of_decide_eq_false hE; omega
                obtain ⟨n2, hn2⟩ : ∃ n2, n2 = nn := ⟨_, rfl⟩
                obtain ⟨U2, hU2⟩ : ∃ U2, gvU U xt xk = U2 := ⟨_, rfl⟩
                have HQ2 := Lib.hid (show U2 s 1 = n2 by rw [← hU2, gvU_zero hz, HQ.out]; exact hn2.symm)
                subst hn2
                have HC1 := Lib.hid (show ∀ u, Lg w tn [⟨g, mb, lo, hi, gs, U⟩] ((nb, 35, #[.int .i64 xw, .string xt, .int .i64 xk, .int .u32 (xa : Int)]) :: []) u → Calls Try.prog 14 #[.pointer (some ⟨g, 0, none⟩), .string xt, .int .i64 xk] u fun e u' => e = .returned (.bool false) ∧ Lg w tn [⟨g, mb, lo, hi, gs, U2⟩] ((nb, 35, #[.int .i64 xw, .string xt, .int .i64 xk, .int .u32 (xa : Int)]) :: []) u' from fun u hu => by have := lg_give hu xt xk HSM.out.1; rwa [hE, hU2] at this)
                clear hE hz hU2
                go_upto_region 23 with (go_at_call 14; (with_reducible refine (HC1.out _ HVN.out).mono ?_); rintro e u6 ⟨rfl, hv⟩; have HX := Lib.hid hv; clear hv d0 d1 d2)
                have hle : (n2 : Int) ≤ (M : Int) := by have h1 : U2 s 1 ≤ _ := HX.out.lim s 1; rw [HMX2.out] at h1; have h2 := HQ2.out; omega
                have hle2 : ¬ (M : Int) < (n2 : Int) := by omega
                have hle3 : ¬ M < n2 := by omega
                have hle4 : decide (M < n2) = false := decide_eq_false hle3
                have hle5 : decide ((M : Int) < (n2 : Int)) = false := decide_eq_false hle2
                have hnn : decide ((n2 : Int) < 0) = false := decide_eq_false (by omega)
                have hnn2 : ¬ (n2 : Int) < 0 := by omega
                have hne : ((n2 : Int) != (n2 : Int)) = false := bne_self_eq_false _
                have HC3 := Lib.hid (show ∀ u, Lg w tn [⟨g, mb, lo, hi, gs, U2⟩] ((nb, 35, #[.int .i64 xw, .string xt, .int .i64 xk, .int .u32 (xa : Int)]) :: []) u → Calls Try.prog 20 #[.pointer (some ⟨g, 0, none⟩), .string s, .int .i64 1] u fun e u' => e = .returned (.int .i64 (n2 : Int)) ∧ Lg w tn [⟨g, mb, lo, hi, gs, U2⟩] ((nb, 35, #[.int .i64 xw, .string xt, .int .i64 xk, .int .u32 (xa : Int)]) :: []) u' from fun u hu => by have := lg_used hu s 1 HSZ.out; rwa [HQ2.out] at this)
                go_wp2_with (go_at_call 20; (with_reducible refine (HC3.out _ HX.out).mono ?_); rintro e u7 ⟨rfl, hv⟩; have HX7 := Lib.hid hv; clear hv)
                go_roundw
                case rel => exact ⟨i + 1, n2, U2, by omega, by go_num, by go_num, HQ2, Lib.hid (HX7.out.less (L' := []) (fun b hb => by cases hb))⟩
                case measure => simp [intOf]; omega
            · have hw2 : (xw == 2) = false := by rw [beq_eq_false_iff_ne]; exact hw
              by_cases hz : xw = 3
              · have hz2 : (xw != 3) = false := by rw [bne_eq_false_iff_eq]; exact hz
                clear hw hz
                obtain ⟨n2, hn2⟩ : ∃ n2, n2 = nn := ⟨_, rfl⟩
                obtain ⟨U2, hU2⟩ : ∃ U2, U = U2 := ⟨_, rfl⟩
                have HQ2 := Lib.hid (show U2 s 1 = n2 by rw [← hU2, HQ.out]; exact hn2.symm)
                have HX := HVN
                rw [hU2] at HX
                subst hn2
                clear hU2
                go_upto_region 23 with fail
                clear d0 d1 d2
                have hle : (n2 : Int) ≤ (M : Int) := by have h1 : U2 s 1 ≤ _ := HX.out.lim s 1; rw [HMX2.out] at h1; have h2 := HQ2.out; omega
                have hle2 : ¬ (M : Int) < (n2 : Int) := by omega
                have hle3 : ¬ M < n2 := by omega
                have hle4 : decide (M < n2) = false := decide_eq_false hle3
                have hle5 : decide ((M : Int) < (n2 : Int)) = false := decide_eq_false hle2
                have hnn : decide ((n2 : Int) < 0) = false := decide_eq_false (by omega)
                have hnn2 : ¬ (n2 : Int) < 0 := by omega
                have hne : ((n2 : Int) != (n2 : Int)) = false := bne_self_eq_false _
                have HC3 := Lib.hid (show ∀ u, Lg w tn [⟨g, mb, lo, hi, gs, U2⟩] ((nb, 35, #[.int .i64 xw, .string xt, .int .i64 xk, .int .u32 (xa : Int)]) :: []) u → Calls Try.prog 20 #[.pointer (some ⟨g, 0, none⟩), .string s, .int .i64 1] u fun e u' => e = .returned (.int .i64 (n2 : Int)) ∧ Lg w tn [⟨g, mb, lo, hi, gs, U2⟩] ((nb, 35, #[.int .i64 xw, .string xt, .int .i64 xk, .int .u32 (xa : Int)]) :: []) u' from fun u hu => by have := lg_used hu s 1 HSZ.out; rwa [HQ2.out] at this)
                go_wp2_with (go_at_call 20; (with_reducible refine (HC3.out _ HX.out).mono ?_); rintro e u7 ⟨rfl, hv⟩; have HX7 := Lib.hid hv; clear hv)
                go_roundw
                case rel => exact ⟨i + 1, n2, U2, by omega, by go_num, by go_num, HQ2, Lib.hid (HX7.out.less (L' := []) (fun b hb => by cases hb))⟩
                case measure => simp [intOf]; omega
              · have hz2 : (xw != 3) = true := by rw [bne_iff_ne]; exact hz
                clear hw hz
                obtain ⟨E, hE⟩ : ∃ E, tkI (gtF tn xt) (U xt xk) xk = E := ⟨_, rfl⟩
                by_cases h0 : E = 0
                · have hEz : (E == 0) = true := by rw [beq_iff_eq]; exact h0
                  obtain ⟨n2, hn2⟩ : ∃ n2, n2 = nn := ⟨_, rfl⟩
                  obtain ⟨U2, hU2⟩ : ∃ U2, tkU (gtF tn xt) U xt xk = U2 := ⟨_, rfl⟩
                  have HQ2 := Lib.hid (show U2 s 1 = n2 by rw [← hU2, cnt_take HO.out, HQ.out]; exact hn2.symm)
                  subst hn2
                  have HC1 := Lib.hid (show ∀ u, Lg w tn [⟨g, mb, lo, hi, gs, U⟩] ((nb, 35, #[.int .i64 xw, .string xt, .int .i64 xk, .int .u32 (xa : Int)]) :: []) u → Calls Try.prog 18 #[.pointer (some ⟨g, 0, none⟩), .string xt, .int .i64 xk] u fun e u' => e = .returned (.int .i64 E) ∧ Lg w tn [⟨g, mb, lo, hi, gs, U2⟩] ((nb, 35, #[.int .i64 xw, .string xt, .int .i64 xk, .int .u32 (xa : Int)]) :: []) u' from fun u hu => by have := lg_take hu xt xk HSM.out.1; rwa [hE, hU2] at this)
                  clear hE hU2 h0
                  go_upto_region 23 with (go_at_call 18; (with_reducible refine (HC1.out _ HVN.out).mono ?_); rintro e u6 ⟨rfl, hv⟩; have HX := Lib.hid hv; clear hv d0 d1 d2)
                  have hle : (n2 : Int) ≤ (M : Int) := by have h1 : U2 s 1 ≤ _ := HX.out.lim s 1; rw [HMX2.out] at h1; have h2 := HQ2.out; omega
                  have hle2 : ¬ (M : Int) < (n2 : Int) := by omega
                  have hle3 : ¬ M < n2 := by omega
                  have hle4 : decide (M < n2) = false := decide_eq_false hle3
                  have hle5 : decide ((M : Int) < (n2 : Int)) = false := decide_eq_false hle2
                  have hnn : decide ((n2 : Int) < 0) = false := decide_eq_false (by omega)
                  have hnn2 : ¬ (n2 : Int) < 0 := by omega
                  have hne : ((n2 : Int) != (n2 : Int)) = false := bne_self_eq_false _
                  have HC3 := Lib.hid (show ∀ u, Lg w tn [⟨g, mb, lo, hi, gs, U2⟩] ((nb, 35, #[.int .i64 xw, .string xt, .int .i64 xk, .int .u32 (xa : Int)]) :: []) u → Calls Try.prog 20 #[.pointer (some ⟨g, 0, none⟩), .string s, .int .i64 1] u fun e u' => e = .returned (.int .i64 (n2 : Int)) ∧ Lg w tn [⟨g, mb, lo, hi, gs, U2⟩] ((nb, 35, #[.int .i64 xw, .string xt, .int .i64 xk, .int .u32 (xa : Int)]) :: []) u' from fun u hu => by have := lg_used hu s 1 HSZ.out; rwa [HQ2.out] at this)
                  go_wp2_with (go_at_call 20; (with_reducible refine (HC3.out _ HX.out).mono ?_); rintro e u7 ⟨rfl, hv⟩; have HX7 := Lib.hid hv; clear hv)
                  go_roundw
                  case rel => exact ⟨i + 1, n2, U2, by omega, by go_num, by go_num, HQ2, Lib.hid (HX7.out.less (L' := []) (fun b hb => by cases hb))⟩
                  case measure => simp [intOf]; omega
                · have hEz : (E == 0) = false := by rw [beq_eq_false_iff_ne]; exact h0
                  obtain ⟨n2, hn2⟩ : ∃ n2, n2 = nn := ⟨_, rfl⟩
                  obtain ⟨U2, hU2⟩ : ∃ U2, tkU (gtF tn xt) U xt xk = U2 := ⟨_, rfl⟩
                  have HQ2 := Lib.hid (show U2 s 1 = n2 by rw [← hU2, cnt_take0 (by rw [hE]; exact h0), HQ.out]; exact hn2.symm)
                  subst hn2
                  have HC1 := Lib.hid (show ∀ u, Lg w tn [⟨g, mb, lo, hi, gs, U⟩] ((nb, 35, #[.int .i64 xw, .string xt, .int .i64 xk, .int .u32 (xa : Int)]) :: []) u → Calls Try.prog 18 #[.pointer (some ⟨g, 0, none⟩), .string xt, .int .i64 xk] u fun e u' => e = .returned (.int .i64 E) ∧ Lg w tn [⟨g, mb, lo, hi, gs, U2⟩] ((nb, 35, #[.int .i64 xw, .string xt, .int .i64 xk, .int .u32 (xa : Int)]) :: []) u' from fun u hu => by have := lg_take hu xt xk HSM.out.1; rwa [hE, hU2] at this)
                  clear hE hU2 h0
                  go_upto_region 23 with (go_at_call 18; (with_reducible refine (HC1.out _ HVN.out).mono ?_); rintro e u6 ⟨rfl, hv⟩; have HX := Lib.hid hv; clear hv d0 d1 d2)
                  have hle : (n2 : Int) ≤ (M : Int) := by have h1 : U2 s 1 ≤ _ := HX.out.lim s 1; rw [HMX2.out] at h1; have h2 := HQ2.out; omega
                  have hle2 : ¬ (M : Int) < (n2 : Int) := by omega
                  have hle3 : ¬ M < n2 := by omega
                  have hle4 : decide (M < n2) = false := decide_eq_false hle3
                  have hle5 : decide ((M : Int) < (n2 : Int)) = false := decide_eq_false hle2
                  have hnn : decide ((n2 : Int) < 0) = false := decide_eq_false (by omega)
                  have hnn2 : ¬ (n2 : Int) < 0 := by omega
                  have hne : ((n2 : Int) != (n2 : Int)) = false := bne_self_eq_false _
                  have HC3 := Lib.hid (show ∀ u, Lg w tn [⟨g, mb, lo, hi, gs, U2⟩] ((nb, 35, #[.int .i64 xw, .string xt, .int .i64 xk, .int .u32 (xa : Int)]) :: []) u → Calls Try.prog 20 #[.pointer (some ⟨g, 0, none⟩), .string s, .int .i64 1] u fun e u' => e = .returned (.int .i64 (n2 : Int)) ∧ Lg w tn [⟨g, mb, lo, hi, gs, U2⟩] ((nb, 35, #[.int .i64 xw, .string xt, .int .i64 xk, .int .u32 (xa : Int)]) :: []) u' from fun u hu => by have := lg_used hu s 1 HSZ.out; rwa [HQ2.out] at this)
                  go_wp2_with (go_at_call 20; (with_reducible refine (HC3.out _ HX.out).mono ?_); rintro e u7 ⟨rfl, hv⟩; have HX7 := Lib.hid hv; clear hv)
                  go_roundw
                  case rel => exact ⟨i + 1, n2, U2, by omega, by go_num, by go_num, HQ2, Lib.hid (HX7.out.less (L' := []) (fun b hb => by cases hb))⟩
                  case measure => simp [intOf]; omega
        · have hi2 : ¬ (i : Int) < (nl : Int) := by omega
          go_wp2
          go_ret
          exact ⟨by first | rfl | simp, HV.out.l⟩
    · have hm2 : decide ((1000 : Int) < (s.size : Int)) = true := decide_eq_true (by omega)
      go_wp2_with (first
        | (go_at_call 10; (with_reducible refine (HGR.out _ HV2.out.l).mono ?_); rintro e u3 ⟨gr, rfl, _, hb⟩; have HV3 := Lib.hid (HV2.out.on hb); clear hb; clear e0 e1 e2 e3 e4; have e0 : u3.cell? ⟨g0, 0, none⟩ = some (.int .i64 a0) := HV3.out.head.cell 0; have e1 : u3.cell? ⟨g0, 1, none⟩ = some (.int .i64 a1) := HV3.out.head.cell 1; have e2 : u3.cell? ⟨g0, 2, none⟩ = some (.int .i64 a2) := HV3.out.head.cell 2; have e3 : u3.cell? ⟨g0, 3, none⟩ = some (.int .i64 a3) := HV3.out.head.cell 3; have e4 : u3.cell? ⟨g0, 4, none⟩ = some (.slice A n c) := HV3.out.head.cell 4; cases gr)
        | (go_at_call 11; (with_reducible refine (HGO.out _ HV3.out.l).mono ?_); rintro e u4 ⟨gr2, rfl, hob, hb⟩; have HV4 := Lib.hid (HV3.out.on hb); have HOB := Lib.hid hob; clear hb hob; clear e0 e1 e2 e3 e4; have e0 : u4.cell? ⟨g0, 0, none⟩ = some (.int .i64 a0) := HV4.out.head.cell 0; have e1 : u4.cell? ⟨g0, 1, none⟩ = some (.int .i64 a1) := HV4.out.head.cell 1; have e2 : u4.cell? ⟨g0, 2, none⟩ = some (.int .i64 a2) := HV4.out.head.cell 2; have e3 : u4.cell? ⟨g0, 3, none⟩ = some (.int .i64 a3) := HV4.out.head.cell 3; have e4 : u4.cell? ⟨g0, 4, none⟩ = some (.slice A n c) := HV4.out.head.cell 4; cases gr2))
      all_goals go_ret
      all_goals first | exact ⟨rfl, HV3.out.l⟩ | exact ⟨rfl, HV4.out.l⟩

set_option maxRecDepth 100000 in
set_option maxHeartbeats 16000000 in
theorem cnt_2 (x : Cv) (B : Option Addr) (lo0 : List Go4) (d : Nat) (s : ByteArray) (w : World) (h : InCf w x) (ho : InG w B lo0 d) (hs : s.size ≤ 140737488355328) :
    Calls Try.prog 4 #[.agg (ccs x), .slice B lo0.length d, .string s, .int .i64 2] w fun e w' => e = .returned (.bool true) ∧ Below w.heap.size w w' := by
  have HGR := Lib.hid (fun u (hu : Below w.heap.size w u) => great_ok x u (h.onG hu))
  have HN0 := Lib.hid (fun (hc : cfgB x.cg = false) => gnew_no h.rc hc)
  have HN1 := Lib.hid (fun (hc : cfgB x.cg = true) => gnew_yes h.rc hc)
  have HRT := Lib.hid h.rc.r
  have HMX := Lib.hid h.rc.f.max
  have HCP := Lib.hid h.rc.f.cap
  have HTE := Lib.hid (fun (hc : cfgB x.cg = true) => (cfgB_parts hc).2.2.2.2.2.2)
  have HTN := Lib.hid (show ∀ s, (fT s x.ts).map (·.t) = gtF x.cg.tens s from fun s => gtF_tens s x.ts)
  have HGO := Lib.hid (fun u (hu : Below w.heap.size w u) => ggreat_ok B lo0 d u (ho.on hu))
  have HOP := Lib.hid ho
  obtain ⟨C, hC⟩ : ∃ C, cfgB x.cg = C := ⟨_, rfl⟩
  simp only [hC] at HN0 HN1 HTE
  obtain ⟨tn, htn⟩ : ∃ tn, x.cg.tens = tn := ⟨_, rfl⟩
  rw [htn] at HN1 HTE HTN
  obtain ⟨a0, a1, a2, a3, ts, A, c⟩ := x
  obtain ⟨n, hn⟩ : ∃ n, ts.length = n := ⟨_, rfl⟩
  have HN := Lib.hid hn
  dsimp only at HRT HMX HCP HTN
  simp only [ccs, hn] at HGR HN0 HN1 ⊢
  have HX := Lib.hid (show Bx w w.heap.size 24 #[.int .i64 a0, .int .i64 a1, .int .i64 a2, .int .i64 a3, .slice A n c] (w.alloc (.cells #[.int .i64 a0, .int .i64 a1, .int .i64 a2, .int .i64 a3, .slice A n c] 24)) from Bx.new w _ _)
  clear h hn hC htn
  obtain ⟨nl, hnl⟩ : ∃ k, lo0.length = k := ⟨_, rfl⟩
  have HNL := Lib.hid hnl
  have hnl47 : nl ≤ 140737488355328 := by rw [← hnl]; exact ho.n
  rw [hnl] at HGO ⊢
  clear hnl ho
  go_enter Try.func4, Try.ntmps4
  go_upto_region 2 with (go_at_call 9; refine (ghead_ok _).mono ?_; rintro e u1 ⟨rfl, hb⟩; have HX1 := Lib.hid (HX.out.on hb); clear hb)
  obtain ⟨g0, hg0⟩ : ∃ g, w.heap.size = g := ⟨_, rfl⟩
  have HG0 := Lib.hid hg0
  rw [hg0] at HX1 ⊢
  clear hg0
  have e0 : u1.cell? ⟨g0, 0, none⟩ = some (.int .i64 a0) := HX1.out.b.cell 0
  have e1 : u1.cell? ⟨g0, 1, none⟩ = some (.int .i64 a1) := HX1.out.b.cell 1
  have e2 : u1.cell? ⟨g0, 2, none⟩ = some (.int .i64 a2) := HX1.out.b.cell 2
  have e3 : u1.cell? ⟨g0, 3, none⟩ = some (.int .i64 a3) := HX1.out.b.cell 3
  have e4 : u1.cell? ⟨g0, 4, none⟩ = some (.slice A n c) := HX1.out.b.cell 4
  cases C with
  | false =>
    go_wp2_with (go_at_call 12; (with_reducible refine (HN0.out (by first | rfl | trivial) _ HX1.out.l).mono ?_); rintro e u2 ⟨rfl, hb⟩; have HX2 := Lib.hid (HX1.out.on hb); clear hb)
    go_ret
    exact ⟨rfl, HX2.out.l⟩
  | true =>
    have HL0 := Lib.hid (show Lg w tn [] [(g0, 24, #[.int .i64 a0, .int .i64 a1, .int .i64 a2, .int .i64 a3, .slice A n c])] u1 from ⟨(fun G hG => by cases hG), .nil, (fun b hb => by obtain rfl := List.mem_singleton.1 hb; exact ⟨HX1.out.b, gcfg_ne⟩), HX1.out.l⟩)
    go_upto_region 3 with (go_at_call 12; (with_reducible refine (HN1.out (by first | rfl | trivial) _ _ _ HL0.out).mono ?_); rintro e u2 ⟨g, mb, lo, hi, gs, rfl, hv⟩; have HV2 := Lib.hid hv; clear hv)
    clear e0 e1 e2 e3 e4
    have e0 : u2.cell? ⟨g0, 0, none⟩ = some (.int .i64 a0) := HV2.out.head.cell 0
    have e1 : u2.cell? ⟨g0, 1, none⟩ = some (.int .i64 a1) := HV2.out.head.cell 1
    have e2 : u2.cell? ⟨g0, 2, none⟩ = some (.int .i64 a2) := HV2.out.head.cell 2
    have e3 : u2.cell? ⟨g0, 3, none⟩ = some (.int .i64 a3) := HV2.out.head.cell 3
    have e4 : u2.cell? ⟨g0, 4, none⟩ = some (.slice A n c) := HV2.out.head.cell 4
    by_cases hm1 : s.size ≤ 1000
    · have hm2 : decide ((1000 : Int) < (s.size : Int)) = false := decide_eq_false (by omega)
      have HFI := Lib.hid (fun u (hu : Below w.heap.size w u) => rfind_ok (.int .i64 a0) (.int .i64 a1) (.int .i64 a2) (.int .i64 a3) A ts n c s u (HRT.out.on hu) HN.out (by have h1 := HMX.out; have h2 := HCP.out; rw [HN.out] at h2; omega))
      have HFN := Lib.hid (find_num HTN.out (HTE.out (by first | rfl | trivial)) s)
      obtain ⟨⟨⟨yn, ya, yb, ynl, ykl⟩, yAn, ycn, yAk, yck⟩, hy⟩ : ∃ y, (fT s ts).getD zeroTv = y := ⟨_, rfl⟩
      obtain ⟨is, his⟩ : ∃ is, (fT s ts).isSome = is := ⟨_, rfl⟩
      rw [hy, his] at HFI
      rw [hy, his] at HFN
      obtain ⟨M1, hM1⟩ : ∃ M1, mxO (gtF tn s) 1 = M1 := ⟨_, rfl⟩
      obtain ⟨M2, hM2⟩ : ∃ M2, mxO (gtF tn s) 2 = M2 := ⟨_, rfl⟩
      obtain ⟨f1, f2, f3, f4, f5, f6⟩ := HFN.out
      dsimp only at f1 f2
      rw [hM1] at f1 f4
      rw [hM2] at f2 f5
      subst f1 f2
      have HMX2 := Lib.hid (show mxO (gtF tn s) 2 = M2 from hM2)
      have HSZ := Lib.hid hs
      simp only [tcs] at HFI
      clear hy his hM1 hM2 f3 f4 f5 f6 HFN HN0 HN1 HTE HTN
      go_upto_region 6 with (first
        | (go_at_call 10; (with_reducible refine (HGR.out _ HV2.out.l).mono ?_); rintro e u3 ⟨gr, rfl, _, hb⟩; have HV3 := Lib.hid (HV2.out.on hb); clear hb; clear e0 e1 e2 e3 e4; have e0 : u3.cell? ⟨g0, 0, none⟩ = some (.int .i64 a0) := HV3.out.head.cell 0; have e1 : u3.cell? ⟨g0, 1, none⟩ = some (.int .i64 a1) := HV3.out.head.cell 1; have e2 : u3.cell? ⟨g0, 2, none⟩ = some (.int .i64 a2) := HV3.out.head.cell 2; have e3 : u3.cell? ⟨g0, 3, none⟩ = some (.int .i64 a3) := HV3.out.head.cell 3; have e4 : u3.cell? ⟨g0, 4, none⟩ = some (.slice A n c) := HV3.out.head.cell 4; cases gr)
        | (go_at_call 11; (with_reducible refine (HGO.out _ HV3.out.l).mono ?_); rintro e u4 ⟨gr2, rfl, hob, hb⟩; have HV4 := Lib.hid (HV3.out.on hb); have HOB := Lib.hid hob; clear hb hob; clear e0 e1 e2 e3 e4; have e0 : u4.cell? ⟨g0, 0, none⟩ = some (.int .i64 a0) := HV4.out.head.cell 0; have e1 : u4.cell? ⟨g0, 1, none⟩ = some (.int .i64 a1) := HV4.out.head.cell 1; have e2 : u4.cell? ⟨g0, 2, none⟩ = some (.int .i64 a2) := HV4.out.head.cell 2; have e3 : u4.cell? ⟨g0, 3, none⟩ = some (.int .i64 a3) := HV4.out.head.cell 3; have e4 : u4.cell? ⟨g0, 4, none⟩ = some (.slice A n c) := HV4.out.head.cell 4; cases gr2)
        | (go_at_call 22; (with_reducible refine (HFI.out _ HV4.out.l).mono ?_); rintro e u5 ⟨rfl, hb⟩; have HV5 := Lib.hid ((HV4.out.on hb).new 45 #[.string yn, .int .i64 (M1 : Int), .int .i64 (M2 : Int), .slice yAn ynl.length ycn, .slice yAk ykl.length yck] (by decide)); clear hb))
      any_goals (go_ret; first | exact ⟨rfl, HV3.out.l⟩ | exact ⟨rfl, HV4.out.l⟩)
      have hnb : nl ≤ 200 := by have := HOB.out (by first | rfl | trivial); rw [HNL.out] at this; exact this
      clear e0 e1 e2 e3 e4 HGR HGO HFI HOB
      obtain ⟨wb, hwb⟩ : ∃ wb, u5.alloc (.cells #[.string yn, .int .i64 (M1 : Int), .int .i64 (M2 : Int), .slice yAn ynl.length ycn, .slice yAk ykl.length yck] 45) = wb := ⟨_, rfl⟩
      rw [hwb] at HV5 ⊢
      have t1 : wb.cell? ⟨u5.heap.size, 1, none⟩ = some (.int .i64 (M1 : Int)) := HV5.out.head.cell 1
      have t2 : wb.cell? ⟨u5.heap.size, 2, none⟩ = some (.int .i64 (M2 : Int)) := HV5.out.head.cell 2
      clear hwb
      go_wp2_with fail
      clear t1 t2
      have HMF := Lib.hid (show ∃ M : Nat, M = M2 from ⟨_, rfl⟩)
      obtain ⟨M, hM⟩ : ∃ M, M2 = M := ⟨_, rfl⟩
      rw [hM] at HMX2
      try rw [hM]
      clear hM HMF
      go_loopw [14, 15] (fun v14 v15 wr => ∃ (i nn : Nat) (U : Us), i ≤ nl ∧ v14 = .int .i64 (nn : Int) ∧ v15 = .int .i64 (i : Int) ∧ Hid (U s 2 = nn) ∧ Hid (Lg w tn [⟨g, mb, lo, hi, gs, U⟩] [] wr)) (fun _ v15 _ => nl - (intOf v15).toNat)
      case atStart => exact ⟨0, 0, U0, by omega, rfl, rfl, Lib.hid rfl, Lib.hid (HV5.out.less (L' := []) (fun b hb => by cases hb))⟩
      case round =>
        obtain ⟨i, nn, U, hi0, rfl, rfl, HQ, HV⟩ := hrel
        have HN8 := Lib.hid (show nn ≤ 8 by have := HV.out.le8 s 2; rw [← HQ.out]; exact this)
        by_cases hi1 : i < nl
        · have hi2 : (i : Int) < (nl : Int) := by omega
          obtain ⟨b, o, x, rfl, hx, hsm, hc⟩ := HOP.out.at4 i (by rw [HNL.out]; exact hi1)
          obtain ⟨c0, c1, c2, c3⟩ := hc wr HV.out.l
          obtain ⟨xw, xt, xk, xa⟩ := x
          dsimp only at c0 c1 c2 c3
          have HSM := Lib.hid hsm
          clear hc hx hsm
          go_upto_region 16 with fail
          clear c0 c1 c2 c3
          have HVN := Lib.hid (HV.out.new 35 #[.int .i64 xw, .string xt, .int .i64 xk, .int .u32 (xa : Int)] (by decide))
          obtain ⟨v0, hv0⟩ : ∃ v, wr.alloc (.cells #[.int .i64 xw, .string xt, .int .i64 xk, .int .u32 (xa : Int)] 35) = v := ⟨_, rfl⟩
          obtain ⟨nb, hnb2⟩ : ∃ nb, wr.heap.size = nb := ⟨_, rfl⟩
          rw [hv0] at HVN ⊢
          rw [hnb2] at HVN ⊢
          clear hv0 hnb2
          have d0 : v0.cell? ⟨nb, 0, none⟩ = some (.int .i64 xw) := HVN.out.head.cell 0
          have d1 : v0.cell? ⟨nb, 1, none⟩ = some (.string xt) := HVN.out.head.cell 1
          have d2 : v0.cell? ⟨nb, 2, none⟩ = some (.int .i64 xk) := HVN.out.head.cell 2
          by_cases hq : xt = s
          · have hq2 : (xt.toList == s.toList) = true := by rw [hq]; exact beq_self_eq_true _
            by_cases hq3 : xk = 2
            · have hq4 : (xk == 2) = true := by rw [beq_iff_eq]; exact hq3
              have HO := Lib.hid (And.intro hq hq3)
              clear hq hq3
              by_cases hw : xw = 2
              · have hw2 : (xw == 2) = true := by rw [beq_iff_eq]; exact hw
                clear hw
                cases hE : gvB U xt xk with
                | true =>
                  have hpos : 0 < U xt xk := by unfold gvB at hE; simpa using hE
                  obtain ⟨n2, hn2⟩ : ∃ n2, nn = n2 + 1 := ⟨nn - 1, by have h1 := HQ.out; rw [HO.out.1, HO.out.2] at hpos; omega⟩
                  obtain ⟨U2, hU2⟩ : ∃ U2, gvU U xt xk = U2 := ⟨_, rfl⟩
                  have HQ2 := Lib.hid (show U2 s 2 = n2 by rw [← hU2, HO.out.1, HO.out.2]; unfold gvU; rw [stU_same, HQ.out]; omega)
                  subst hn2
                  have hn8 : n2 ≤ 8 := by have := HN8.out; omega
                  have HC1 := Lib.hid (show ∀ u, Lg w tn [⟨g, mb, lo, hi, gs, U⟩] ((nb, 35, #[.int .i64 xw, .string xt, .int .i64 xk, .int .u32 (xa : Int)]) :: []) u → Calls Try.prog 14 #[.pointer (some ⟨g, 0, none⟩), .string xt, .int .i64 xk] u fun e u' => e = .returned (.bool true) ∧ Lg w tn [⟨g, mb, lo, hi, gs, U2⟩] ((nb, 35, #[.int .i64 xw, .string xt, .int .i64 xk, .int .u32 (xa : Int)]) :: []) u' from fun u hu => by have := lg_give hu xt xk HSM.out.1; rwa [hE, hU2] at this)
                  clear hE hpos hU2
                  go_upto_region 23 with (go_at_call 14; (with_reducible refine (HC1.out _ HVN.out).mono ?_); rintro e u6 ⟨rfl, hv⟩; have HX := Lib.hid hv; clear hv d0 d1 d2)
                  have hle : (n2 : Int) ≤ (M : Int) := by have h1 : U2 s 2 ≤ _ := HX.out.lim s 2; rw [HMX2.out] at h1; have h2 := HQ2.out; omega
                  have hle2 : ¬ (M : Int) < (n2 : Int) := by omega
                  have hle3 : ¬ M < n2 := by omega
                  have hle4 : decide (M < n2) = false := decide_eq_false hle3
                  have hle5 : decide ((M : Int) < (n2 : Int)) = false := decide_eq_false hle2
                  have hnn : decide ((n2 : Int) < 0) = false := decide_eq_false (by omega)
                  have hnn2 : ¬ (n2 : Int) < 0 := by omega
                  have hne : ((n2 : Int) != (n2 : Int)) = false := bne_self_eq_false _
                  have HC3 := Lib.hid (show ∀ u, Lg w tn [⟨g, mb, lo, hi, gs, U2⟩] ((nb, 35, #[.int .i64 xw, .string xt, .int .i64 xk, .int .u32 (xa : Int)]) :: []) u → Calls Try.prog 20 #[.pointer (some ⟨g, 0, none⟩), .string s, .int .i64 2] u fun e u' => e = .returned (.int .i64 (n2 : Int)) ∧ Lg w tn [⟨g, mb, lo, hi, gs, U2⟩] ((nb, 35, #[.int .i64 xw, .string xt, .int .i64 xk, .int .u32 (xa : Int)]) :: []) u' from fun u hu => by have := lg_used hu s 2 HSZ.out; rwa [HQ2.out] at this)
                  go_wp2_with (go_at_call 20; (with_reducible refine (HC3.out _ HX.out).mono ?_); rintro e u7 ⟨rfl, hv⟩; have HX7 := Lib.hid hv; clear hv)
                  go_roundw
                  case rel => exact ⟨i + 1, n2, U2, by omega, by go_num, by go_num, HQ2, Lib.hid (HX7.out.less (L' := []) (fun b hb => by cases hb))⟩
                  case measure => simp [intOf]; omega
                | false =>
                  have hz : U xt xk = 0 := by unfold gvB at hE; have := of_decide_eq_false hE; omega
                  obtain ⟨n2, hn2⟩ : ∃ n2, n2 = nn := ⟨_, rfl⟩
                  obtain ⟨U2, hU2⟩ : ∃ U2, gvU U xt xk = U2 := ⟨_, rfl⟩
                  have HQ2 := Lib.hid (show U2 s 2 = n2 by rw [← hU2, gvU_zero hz, HQ.out]; exact hn2.symm)
                  subst hn2
                  have HC1 := Lib.hid (show ∀ u, Lg w tn [⟨g, mb, lo, hi, gs, U⟩] ((nb, 35, #[.int .i64 xw, .string xt, .int .i64 xk, .int .u32 (xa : Int)]) :: []) u → Calls Try.prog 14 #[.pointer (some ⟨g, 0, none⟩), .string xt, .int .i64 xk] u fun e u' => e = .returned (.bool false) ∧ Lg w tn [⟨g, mb, lo, hi, gs, U2⟩] ((nb, 35, #[.int .i64 xw, .string xt, .int .i64 xk, .int .u32 (xa : Int)]) :: []) u' from fun u hu => by have := lg_give hu xt xk HSM.out.1; rwa [hE, hU2] at this)
                  clear hE hz hU2
                  go_upto_region 23 with (go_at_call 14; (with_reducible refine (HC1.out _ HVN.out).mono ?_); rintro e u6 ⟨rfl, hv⟩; have HX := Lib.hid hv; clear hv d0 d1 d2)
                  have hle : (n2 : Int) ≤ (M : Int) := by have h1 : U2 s 2 ≤ _ := HX.out.lim s 2; rw [HMX2.out] at h1; have h2 := HQ2.out; omega
                  have hle2 : ¬ (M : Int) < (n2 : Int) := by omega
                  have hle3 : ¬ M < n2 := by omega
                  have hle4 : decide (M < n2) = false := decide_eq_false hle3
                  have hle5 : decide ((M : Int) < (n2 : Int)) = false := decide_eq_false hle2
                  have hnn : decide ((n2 : Int) < 0) = false := decide_eq_false (by omega)
                  have hnn2 : ¬ (n2 : Int) < 0 := by omega
                  have hne : ((n2 : Int) != (n2 : Int)) = false := bne_self_eq_false _
                  have HC3 := Lib.hid (show ∀ u, Lg w tn [⟨g, mb, lo, hi, gs, U2⟩] ((nb, 35, #[.int .i64 xw, .string xt, .int .i64 xk, .int .u32 (xa : Int)]) :: []) u → Calls Try.prog 20 #[.pointer (some ⟨g, 0, none⟩), .string s, .int .i64 2] u fun e u' => e = .returned (.int .i64 (n2 : Int)) ∧ Lg w tn [⟨g, mb, lo, hi, gs, U2⟩] ((nb, 35, #[.int .i64 xw, .string xt, .int .i64 xk, .int .u32 (xa : Int)]) :: []) u' from fun u hu => by have := lg_used hu s 2 HSZ.out; rwa [HQ2.out] at this)
                  go_wp2_with (go_at_call 20; (with_reducible refine (HC3.out _ HX.out).mono ?_); rintro e u7 ⟨rfl, hv⟩; have HX7 := Lib.hid hv; clear hv)
                  go_roundw
                  case rel => exact ⟨i + 1, n2, U2, by omega, by go_num, by go_num, HQ2, Lib.hid (HX7.out.less (L' := []) (fun b hb => by cases hb))⟩
                  case measure => simp [intOf]; omega
              · have hw2 : (xw == 2) = false := by rw [beq_eq_false_iff_ne]; exact hw
                by_cases hz : xw = 3
                · have hz2 : (xw != 3) = false := by rw [bne_eq_false_iff_eq]; exact hz
                  clear hw hz
                  obtain ⟨n2, hn2⟩ : ∃ n2, n2 = nn := ⟨_, rfl⟩
                  obtain ⟨U2, hU2⟩ : ∃ U2, U = U2 := ⟨_, rfl⟩
                  have HQ2 := Lib.hid (show U2 s 2 = n2 by rw [← hU2, HQ.out]; exact hn2.symm)
                  have HX := HVN
                  rw [hU2] at HX
                  subst hn2
                  clear hU2
                  go_upto_region 23 with fail
                  clear d0 d1 d2
                  have hle : (n2 : Int) ≤ (M : Int) := by have h1 : U2 s 2 ≤ _ := HX.out.lim s 2; rw [HMX2.out] at h1; have h2 := HQ2.out; omega
                  have hle2 : ¬ (M : Int) < (n2 : Int) := by omega
                  have hle3 : ¬ M < n2 := by omega
                  have hle4 : decide (M < n2) = false := decide_eq_false hle3
                  have hle5 : decide ((M : Int) < (n2 : Int)) = false := decide_eq_false hle2
                  have hnn : decide ((n2 : Int) < 0) = false := decide_eq_false (by omega)
                  have hnn2 : ¬ (n2 : Int) < 0 := by omega
                  have hne : ((n2 : Int) != (n2 : Int)) = false := bne_self_eq_false _
                  have HC3 := Lib.hid (show ∀ u, Lg w tn [⟨g, mb, lo, hi, gs, U2⟩] ((nb, 35, #[.int .i64 xw, .string xt, .int .i64 xk, .int .u32 (xa : Int)]) :: []) u → Calls Try.prog 20 #[.pointer (some ⟨g, 0, none⟩), .string s, .int .i64 2] u fun e u' => e = .returned (.int .i64 (n2 : Int)) ∧ Lg w tn [⟨g, mb, lo, hi, gs, U2⟩] ((nb, 35, #[.int .i64 xw, .string xt, .int .i64 xk, .int .u32 (xa : Int)]) :: []) u' from fun u hu => by have := lg_used hu s 2 HSZ.out; rwa [HQ2.out] at this)
                  go_wp2_with (go_at_call 20; (with_reducible refine (HC3.out _ HX.out).mono ?_); rintro e u7 ⟨rfl, hv⟩; have HX7 := Lib.hid hv; clear hv)
                  go_roundw
                  case rel => exact ⟨i + 1, n2, U2, by omega, by go_num, by go_num, HQ2, Lib.hid (HX7.out.less (L' := []) (fun b hb => by cases hb))⟩
                  case measure => simp [intOf]; omega
                · have hz2 : (xw != 3) = true := by rw [bne_iff_ne]; exact hz
                  clear hw hz
                  obtain ⟨E, hE⟩ : ∃ E, tkI (gtF tn xt) (U xt xk) xk = E := ⟨_, rfl⟩
                  by_cases h0 : E = 0
                  · have hEz : (E == 0) = true := by rw [beq_iff_eq]; exact h0
                    obtain ⟨U2, hU2⟩ : ∃ U2, tkU (gtF tn xt) U xt xk = U2 := ⟨_, rfl⟩
                    have HQ2 := Lib.hid (show U2 s 2 = nn + 1 by
                      have h1 := hE.trans h0
                      rw [HO.out.1, HO.out.2] at h1
                      rw [← hU2, HO.out.1, HO.out.2, cnt_take1 h1, HQ.out])
                    have hn8 : nn ≤ 8 := HN8.out
                    have HC1 := Lib.hid (show ∀ u, Lg w tn [⟨g, mb, lo, hi, gs, U⟩] ((nb, 35, #[.int .i64 xw, .string xt, .int .i64 xk, .int .u32 (xa : Int)]) :: []) u → Calls Try.prog 18 #[.pointer (some ⟨g, 0, none⟩), .string xt, .int .i64 xk] u fun e u' => e = .returned (.int .i64 E) ∧ Lg w tn [⟨g, mb, lo, hi, gs, U2⟩] ((nb, 35, #[.int .i64 xw, .string xt, .int .i64 xk, .int .u32 (xa : Int)]) :: []) u' from fun u hu => by have := lg_take hu xt xk HSM.out.1; rwa [hE, hU2] at this)
                    clear hE hU2 h0
                    go_upto_region 23 with (go_at_call 18; (with_reducible refine (HC1.out _ HVN.out).mono ?_); rintro e u6 ⟨rfl, hv⟩; have HX := Lib.hid hv; clear hv d0 d1 d2)
                    have hle : ((nn : Int) + 1) ≤ (M : Int) := by have h1 : U2 s 2 ≤ _ := HX.out.lim s 2; rw [HMX2.out] at h1; have h2 := HQ2.out; omega
                    have hle2 : ¬ (M : Int) < ((nn : Int) + 1) := by omega
                    have hle3 : ¬ M < (nn + 1) := by omega
                    have hle4 : decide (M < (nn + 1)) = false := decide_eq_false hle3
                    have hle5 : decide ((M : Int) < ((nn : Int) + 1)) = false := decide_eq_false hle2
                    have hnn : decide (((nn : Int) + 1) < 0) = false := decide_eq_false (by omega)
                    have hnn2 : ¬ ((nn : Int) + 1) < 0 := by omega
                    have hne : (((nn : Int) + 1) != ((nn : Int) + 1)) = false := bne_self_eq_false _
                    have HC3 := Lib.hid (show ∀ u, Lg w tn [⟨g, mb, lo, hi, gs, U2⟩] ((nb, 35, #[.int .i64 xw, .string xt, .int .i64 xk, .int .u32 (xa : Int)]) :: []) u → Calls Try.prog 20 #[.pointer (some ⟨g, 0, none⟩), .string s, .int .i64 2] u fun e u' => e = .returned (.int .i64 ((nn : Int) + 1)) ∧ Lg w tn [⟨g, mb, lo, hi, gs, U2⟩] ((nb, 35, #[.int .i64 xw, .string xt, .int .i64 xk, .int .u32 (xa : Int)]) :: []) u' from fun u hu => by have := lg_used hu s 2 HSZ.out; rwa [HQ2.out] at this)
                    go_wp2_with (go_at_call 20; (with_reducible refine (HC3.out _ HX.out).mono ?_); rintro e u7 ⟨rfl, hv⟩; have HX7 := Lib.hid hv; clear hv)
                    go_roundw
                    case rel => exact ⟨i + 1, (nn + 1), U2, by omega, by go_num, by go_num, HQ2, Lib.hid (HX7.out.less (L' := []) (fun b hb => by cases hb))⟩
                    case measure => simp [intOf]; omega
                  · have hEz : (E == 0) = false := by rw [beq_eq_false_iff_ne]; exact h0
                    obtain ⟨n2, hn2⟩ : ∃ n2, n2 = nn := ⟨_, rfl⟩
                    obtain ⟨U2, hU2⟩ : ∃ U2, tkU (gtF tn xt) U xt xk = U2 := ⟨_, rfl⟩
                    have HQ2 := Lib.hid (show U2 s 2 = n2 by rw [← hU2, cnt_take0 (by rw [hE]; exact h0), HQ.out]; exact hn2.symm)
                    subst hn2
                    have HC1 := Lib.hid (show ∀ u, Lg w tn [⟨g, mb, lo, hi, gs, U⟩] ((nb, 35, #[.int .i64 xw, .string xt, .int .i64 xk, .int .u32 (xa : Int)]) :: []) u → Calls Try.prog 18 #[.pointer (some ⟨g, 0, none⟩), .string xt, .int .i64 xk] u fun e u' => e = .returned (.int .i64 E) ∧ Lg w tn [⟨g, mb, lo, hi, gs, U2⟩] ((nb, 35, #[.int .i64 xw, .string xt, .int .i64 xk, .int .u32 (xa : Int)]) :: []) u' from fun u hu => by have := lg_take hu xt xk HSM.out.1; rwa [hE, hU2] at this)
                    clear hE hU2 h0
                    go_upto_region 23 with (go_at_call 18; (with_reducible refine (HC1.out _ HVN.out).mono ?_); rintro e u6 ⟨rfl, hv⟩; have HX := Lib.hid hv; clear hv d0 d1 d2)
                    have hle : (n2 : Int) ≤ (M : Int) := by have h1 : U2 s 2 ≤ _ := HX.out.lim s 2; rw [HMX2.out] at h1; have h2 := HQ2.out; omega
                    have hle2 : ¬ (M : Int) < (n2 : Int) := by omega
                    have hle3 : ¬ M < n2 := by omega
                    have hle4 : decide (M < n2) = false := decide_eq_false hle3
                    have hle5 : decide ((M : Int) < (n2 : Int)) = false := decide_eq_false hle2
                    have hnn : decide ((n2 : Int) < 0) = false := decide_eq_false (by omega)
                    have hnn2 : ¬ (n2 : Int) < 0 := by omega
                    have hne : ((n2 : Int) != (n2 : Int)) = false := bne_self_eq_false _
                    have HC3 := Lib.hid (show ∀ u, Lg w tn [⟨g, mb, lo, hi, gs, U2⟩] ((nb, 35, #[.int .i64 xw, .string xt, .int .i64 xk, .int .u32 (xa : Int)]) :: []) u → Calls Try.prog 20 #[.pointer (some ⟨g, 0, none⟩), .string s, .int .i64 2] u fun e u' => e = .returned (.int .i64 (n2 : Int)) ∧ Lg w tn [⟨g, mb, lo, hi, gs, U2⟩] ((nb, 35, #[.int .i64 xw, .string xt, .int .i64 xk, .int .u32 (xa : Int)]) :: []) u' from fun u hu => by have := lg_used hu s 2 HSZ.out; rwa [HQ2.out] at this)
                    go_wp2_with (go_at_call 20; (with_reducible refine (HC3.out _ HX.out).mono ?_); rintro e u7 ⟨rfl, hv⟩; have HX7 := Lib.hid hv; clear hv)
                    go_roundw
                    case rel => exact ⟨i + 1, n2, U2, by omega, by go_num, by go_num, HQ2, Lib.hid (HX7.out.less (L' := []) (fun b hb => by cases hb))⟩
                    case measure => simp [intOf]; omega
            · have hq4 : (xk == 2) = false := by rw [beq_eq_false_iff_ne]; exact hq3
              have HO := Lib.hid (show ¬ (xt = s ∧ xk = 2) from fun h => hq3 h.2)
              clear hq hq3
              by_cases hw : xw = 2
              · have hw2 : (xw == 2) = true := by rw [beq_iff_eq]; exact hw
                clear hw
                cases hE : gvB U xt xk with
                | true =>
                  have hpos : 0 < U xt xk := by unfold gvB at hE; simpa using hE
                  obtain ⟨n2, hn2⟩ : ∃ n2, n2 = nn := ⟨_, rfl⟩
                  obtain ⟨U2, hU2⟩ : ∃ U2, gvU U xt xk = U2 := ⟨_, rfl⟩
                  have HQ2 := Lib.hid (show U2 s 2 = n2 by rw [← hU2, cnt_give HO.out, HQ.out]; exact hn2.symm)
                  subst hn2
                  have HC1 := Lib.hid (show ∀ u, Lg w tn [⟨g, mb, lo, hi, gs, U⟩] ((nb, 35, #[.int .i64 xw, .string xt, .int .i64 xk, .int .u32 (xa : Int)]) :: []) u → Calls Try.prog 14 #[.pointer (some ⟨g, 0, none⟩), .string xt, .int .i64 xk] u fun e u' => e = .returned (.bool true) ∧ Lg w tn [⟨g, mb, lo, hi, gs, U2⟩] ((nb, 35, #[.int .i64 xw, .string xt, .int .i64 xk, .int .u32 (xa : Int)]) :: []) u' from fun u hu => by have := lg_give hu xt xk HSM.out.1; rwa [hE, hU2] at this)
                  clear hE hpos hU2
                  go_upto_region 23 with (go_at_call 14; (with_reducible refine (HC1.out _ HVN.out).mono ?_); rintro e u6 ⟨rfl, hv⟩; have HX := Lib.hid hv; clear hv d0 d1 d2)
                  have hle : (n2 : Int) ≤ (M : Int) := by have h1 : U2 s 2 ≤ _ := HX.out.lim s 2; rw [HMX2.out] at h1; have h2 := HQ2.out; omega
                  have hle2 : ¬ (M : Int) < (n2 : Int) := by omega
                  have hle3 : ¬ M < n2 := by omega
                  have hle4 : decide (M < n2) = false := decide_eq_false hle3
                  have hle5 : decide ((M : Int) < (n2 : Int)) = false := decide_eq_false hle2
                  have hnn : decide ((n2 : Int) < 0) = false := decide_eq_false (by omega)
                  have hnn2 : ¬ (n2 : Int) < 0 := by omega
                  have hne : ((n2 : Int) != (n2 : Int)) = false := bne_self_eq_false _
                  have HC3 := Lib.hid (show ∀ u, Lg w tn [⟨g, mb, lo, hi, gs, U2⟩] ((nb, 35, #[.int .i64 xw, .string xt, .int .i64 xk, .int .u32 (xa : Int)]) :: []) u → Calls Try.prog 20 #[.pointer (some ⟨g, 0, none⟩), .string s, .int .i64 2] u fun e u' => e = .returned (.int .i64 (n2 : Int)) ∧ Lg w tn [⟨g, mb, lo, hi, gs, U2⟩] ((nb, 35, #[.int .i64 xw, .string xt, .int .i64 xk, .int .u32 (xa : Int)]) :: []) u' from fun u hu => by have := lg_used hu s 2 HSZ.out; rwa [HQ2.out] at this)
                  go_wp2_with (go_at_call 20; (with_reducible refine (HC3.out _ HX.out).mono ?_); rintro e u7 ⟨rfl, hv⟩; have HX7 := Lib.hid hv; clear hv)
                  go_roundw
                  case rel => exact ⟨i + 1, n2, U2, by omega, by go_num, by go_num, HQ2, Lib.hid (HX7.out.less (L' := []) (fun b hb => by cases hb))⟩
                  case measure => simp [intOf]; omega
                | false =>
                  have hz : U xt xk = 0 := by unfold gvB at hE; have := of_decide_eq_false hE; omega
                  obtain ⟨n2, hn2⟩ : ∃ n2, n2 = nn := ⟨_, rfl⟩
                  obtain ⟨U2, hU2⟩ : ∃ U2, gvU U xt xk = U2 := ⟨_, rfl⟩
                  have HQ2 := Lib.hid (show U2 s 2 = n2 by rw [← hU2, gvU_zero hz, HQ.out]; exact hn2.symm)
                  subst hn2
                  have HC1 := Lib.hid (show ∀ u, Lg w tn [⟨g, mb, lo, hi, gs, U⟩] ((nb, 35, #[.int .i64 xw, .string xt, .int .i64 xk, .int .u32 (xa : Int)]) :: []) u → Calls Try.prog 14 #[.pointer (some ⟨g, 0, none⟩), .string xt, .int .i64 xk] u fun e u' => e = .returned (.bool false) ∧ Lg w tn [⟨g, mb, lo, hi, gs, U2⟩] ((nb, 35, #[.int .i64 xw, .string xt, .int .i64 xk, .int .u32 (xa : Int)]) :: []) u' from fun u hu => by have := lg_give hu xt xk HSM.out.1; rwa [hE, hU2] at this)
                  clear hE hz hU2
                  go_upto_region 23 with (go_at_call 14; (with_reducible refine (HC1.out _ HVN.out).mono ?_); rintro e u6 ⟨rfl, hv⟩; have HX := Lib.hid hv; clear hv d0 d1 d2)
                  have hle : (n2 : Int) ≤ (M : Int) := by have h1 : U2 s 2 ≤ _ := HX.out.lim s 2; rw [HMX2.out] at h1; have h2 := HQ2.out; omega
                  have hle2 : ¬ (M : Int) < (n2 : Int) := by omega
                  have hle3 : ¬ M < n2 := by omega
                  have hle4 : decide (M < n2) = false := decide_eq_false hle3
                  have hle5 : decide ((M : Int) < (n2 : Int)) = false := decide_eq_false hle2
                  have hnn : decide ((n2 : Int) < 0) = false := decide_eq_false (by omega)
                  have hnn2 : ¬ (n2 : Int) < 0 := by omega
                  have hne : ((n2 : Int) != (n2 : Int)) = false := bne_self_eq_false _
                  have HC3 := Lib.hid (show ∀ u, Lg w tn [⟨g, mb, lo, hi, gs, U2⟩] ((nb, 35, #[.int .i64 xw, .string xt, .int .i64 xk, .int .u32 (xa : Int)]) :: []) u → Calls Try.prog 20 #[.pointer (some ⟨g, 0, none⟩), .string s, .int .i64 2] u fun e u' => e = .returned (.int .i64 (n2 : Int)) ∧ Lg w tn [⟨g, mb, lo, hi, gs, U2⟩] ((nb, 35, #[.int .i64 xw, .string xt, .int .i64 xk, .int .u32 (xa : Int)]) :: []) u' from fun u hu => by have := lg_used hu s 2 HSZ.out; rwa [HQ2.out] at this)
                  go_wp2_with (go_at_call 20; (with_reducible refine (HC3.out _ HX.out).mono ?_); rintro e u7 ⟨rfl, hv⟩; have HX7 := Lib.hid hv; clear hv)
                  go_roundw
                  case rel => exact ⟨i + 1, n2, U2, by omega, by go_num, by go_num, HQ2, Lib.hid (HX7.out.less (L' := []) (fun b hb => by cases hb))⟩
                  case measure => simp [intOf]; omega
              · have hw2 : (xw == 2) = false := by rw [beq_eq_false_iff_ne]; exact hw
                by_cases hz : xw = 3
                · have hz2 : (xw != 3) = false := by rw [bne_eq_false_iff_eq]; exact hz
                  clear hw hz
                  obtain ⟨n2, hn2⟩ : ∃ n2, n2 = nn := ⟨_, rfl⟩
                  obtain ⟨U2, hU2⟩ : ∃ U2, U = U2 := ⟨_, rfl⟩
                  have HQ2 := Lib.hid (show U2 s 2 = n2 by rw [← hU2, HQ.out]; exact hn2.symm)
                  have HX := HVN
                  rw [hU2] at HX
                  subst hn2
                  clear hU2
                  go_upto_region 23 with fail
                  clear d0 d1 d2
                  have hle : (n2 : Int) ≤ (M : Int) := by have h1 : U2 s 2 ≤ _ := HX.out.lim s 2; rw [HMX2.out] at h1; have h2 := HQ2.out; omega
                  have hle2 : ¬ (M : Int) < (n2 : Int) := by omega
                  have hle3 : ¬ M < n2 := by omega
                  have hle4 : decide (M < n2) = false := decide_eq_false hle3
                  have hle5 : decide ((M : Int) < (n2 : Int)) = false := decide_eq_false hle2
                  have hnn : decide ((n2 : Int) < 0) = false := decide_eq_false (by omega)
                  have hnn2 : ¬ (n2 : Int) < 0 := by omega
                  have hne : ((n2 : Int) != (n2 : Int)) = false := bne_self_eq_false _
                  have HC3 := Lib.hid (show ∀ u, Lg w tn [⟨g, mb, lo, hi, gs, U2⟩] ((nb, 35, #[.int .i64 xw, .string xt, .int .i64 xk, .int .u32 (xa : Int)]) :: []) u → Calls Try.prog 20 #[.pointer (some ⟨g, 0, none⟩), .string s, .int .i64 2] u fun e u' => e = .returned (.int .i64 (n2 : Int)) ∧ Lg w tn [⟨g, mb, lo, hi, gs, U2⟩] ((nb, 35, #[.int .i64 xw, .string xt, .int .i64 xk, .int .u32 (xa : Int)]) :: []) u' from fun u hu => by have := lg_used hu s 2 HSZ.out; rwa [HQ2.out] at this)
                  go_wp2_with (go_at_call 20; (with_reducible refine (HC3.out _ HX.out).mono ?_); rintro e u7 ⟨rfl, hv⟩; have HX7 := Lib.hid hv; clear hv)
                  go_roundw
                  case rel => exact ⟨i + 1, n2, U2, by omega, by go_num, by go_num, HQ2, Lib.hid (HX7.out.less (L' := []) (fun b hb => by cases hb))⟩
                  case measure => simp [intOf]; omega
                · have hz2 : (xw != 3) = true := by rw [bne_iff_ne]; exact hz
                  clear hw hz
                  obtain ⟨E, hE⟩ : ∃ E, tkI (gtF tn xt) (U xt xk) xk = E := ⟨_, rfl⟩
                  by_cases h0 : E = 0
                  · have hEz : (E == 0) = true := by rw [beq_iff_eq]; exact h0
                    obtain ⟨n2, hn2⟩ : ∃ n2, n2 = nn := ⟨_, rfl⟩
                    obtain ⟨U2, hU2⟩ : ∃ U2, tkU (gtF tn xt) U xt xk = U2 := ⟨_, rfl⟩
                    have HQ2 := Lib.hid (show U2 s 2 = n2 by rw [← hU2, cnt_take HO.out, HQ.out]; exact hn2.symm)
                    subst hn2
                    have HC1 := Lib.hid (show ∀ u, Lg w tn [⟨g, mb, lo, hi, gs, U⟩] ((nb, 35, #[.int .i64 xw, .string xt, .int .i64 xk, .int .u32 (xa : Int)]) :: []) u → Calls Try.prog 18 #[.pointer (some ⟨g, 0, none⟩), .string xt, .int .i64 xk] u fun e u' => e = .returned (.int .i64 E) ∧ Lg w tn [⟨g, mb, lo, hi, gs, U2⟩] ((nb, 35, #[.int .i64 xw, .string xt, .int .i64 xk, .int .u32 (xa : Int)]) :: []) u' from fun u hu => by have := lg_take hu xt xk HSM.out.1; rwa [hE, hU2] at this)
                    clear hE hU2 h0
                    go_upto_region 23 with (go_at_call 18; (with_reducible refine (HC1.out _ HVN.out).mono ?_); rintro e u6 ⟨rfl, hv⟩; have HX := Lib.hid hv; clear hv d0 d1 d2)
                    have hle : (n2 : Int) ≤ (M : Int) := by have h1 : U2 s 2 ≤ _ := HX.out.lim s 2; rw [HMX2.out] at h1; have h2 := HQ2.out; omega
                    have hle2 : ¬ (M : Int) < (n2 : Int) := by omega
                    have hle3 : ¬ M < n2 := by omega
                    have hle4 : decide (M < n2) = false := decide_eq_false hle3
                    have hle5 : decide ((M : Int) < (n2 : Int)) = false := decide_eq_false hle2
                    have hnn : decide ((n2 : Int) < 0) = false := decide_eq_false (by omega)
                    have hnn2 : ¬ (n2 : Int) < 0 := by omega
                    have hne : ((n2 : Int) != (n2 : Int)) = false := bne_self_eq_false _
                    have HC3 := Lib.hid (show ∀ u, Lg w tn [⟨g, mb, lo, hi, gs, U2⟩] ((nb, 35, #[.int .i64 xw, .string xt, .int .i64 xk, .int .u32 (xa : Int)]) :: []) u → Calls Try.prog 20 #[.pointer (some ⟨g, 0, none⟩), .string s, .int .i64 2] u fun e u' => e = .returned (.int .i64 (n2 : Int)) ∧ Lg w tn [⟨g, mb, lo, hi, gs, U2⟩] ((nb, 35, #[.int .i64 xw, .string xt, .int .i64 xk, .int .u32 (xa : Int)]) :: []) u' from fun u hu => by have := lg_used hu s 2 HSZ.out; rwa [HQ2.out] at this)
                    go_wp2_with (go_at_call 20; (with_reducible refine (HC3.out _ HX.out).mono ?_); rintro e u7 ⟨rfl, hv⟩; have HX7 := Lib.hid hv; clear hv)
                    go_roundw
                    case rel => exact ⟨i + 1, n2, U2, by omega, by go_num, by go_num, HQ2, Lib.hid (HX7.out.less (L' := []) (fun b hb => by cases hb))⟩
                    case measure => simp [intOf]; omega
                  · have hEz : (E == 0) = false := by rw [beq_eq_false_iff_ne]; exact h0
                    obtain ⟨n2, hn2⟩ : ∃ n2, n2 = nn := ⟨_, rfl⟩
                    obtain ⟨U2, hU2⟩ : ∃ U2, tkU (gtF tn xt) U xt xk = U2 := ⟨_, rfl⟩
                    have HQ2 := Lib.hid (show U2 s 2 = n2 by rw [← hU2, cnt_take0 (by rw [hE]; exact h0), HQ.out]; exact hn2.symm)
                    subst hn2
                    have HC1 := Lib.hid (show ∀ u, Lg w tn [⟨g, mb, lo, hi, gs, U⟩] ((nb, 35, #[.int .i64 xw, .string xt, .int .i64 xk, .int .u32 (xa : Int)]) :: []) u → Calls Try.prog 18 #[.pointer (some ⟨g, 0, none⟩), .string xt, .int .i64 xk] u fun e u' => e = .returned (.int .i64 E) ∧ Lg w tn [⟨g, mb, lo, hi, gs, U2⟩] ((nb, 35, #[.int .i64 xw, .string xt, .int .i64 xk, .int .u32 (xa : Int)]) :: []) u' from fun u hu => by have := lg_take hu xt xk HSM.out.1; rwa [hE, hU2] at this)
                    clear hE hU2 h0
                    go_upto_region 23 with (go_at_call 18; (with_reducible refine (HC1.out _ HVN.out).mono ?_); rintro e u6 ⟨rfl, hv⟩; have HX := Lib.hid hv; clear hv d0 d1 d2)
                    have hle : (n2 : Int) ≤ (M : Int) := by have h1 : U2 s 2 ≤ _ := HX.out.lim s 2; rw [HMX2.out] at h1; have h2 := HQ2.out; omega
                    have hle2 : ¬ (M : Int) < (n2 : Int) := by omega
                    have hle3 : ¬ M < n2 := by omega
                    have hle4 : decide (M < n2) = false := decide_eq_false hle3
                    have hle5 : decide ((M : Int) < (n2 : Int)) = false := decide_eq_false hle2
                    have hnn : decide ((n2 : Int) < 0) = false := decide_eq_false (by omega)
                    have hnn2 : ¬ (n2 : Int) < 0 := by omega
                    have hne : ((n2 : Int) != (n2 : Int)) = false := bne_self_eq_false _
                    have HC3 := Lib.hid (show ∀ u, Lg w tn [⟨g, mb, lo, hi, gs, U2⟩] ((nb, 35, #[.int .i64 xw, .string xt, .int .i64 xk, .int .u32 (xa : Int)]) :: []) u → Calls Try.prog 20 #[.pointer (some ⟨g, 0, none⟩), .string s, .int .i64 2] u fun e u' => e = .returned (.int .i64 (n2 : Int)) ∧ Lg w tn [⟨g, mb, lo, hi, gs, U2⟩] ((nb, 35, #[.int .i64 xw, .string xt, .int .i64 xk, .int .u32 (xa : Int)]) :: []) u' from fun u hu => by have := lg_used hu s 2 HSZ.out; rwa [HQ2.out] at this)
                    go_wp2_with (go_at_call 20; (with_reducible refine (HC3.out _ HX.out).mono ?_); rintro e u7 ⟨rfl, hv⟩; have HX7 := Lib.hid hv; clear hv)
                    go_roundw
                    case rel => exact ⟨i + 1, n2, U2, by omega, by go_num, by go_num, HQ2, Lib.hid (HX7.out.less (L' := []) (fun b hb => by cases hb))⟩
                    case measure => simp [intOf]; omega
          · have hq2 : (xt.toList == s.toList) = false := by
              cases hh : (xt.toList == s.toList)
              · rfl
              · exact absurd (nmEq_iff.1 hh) hq
            have HO := Lib.hid (show ¬ (xt = s ∧ xk = 2) from fun h => hq h.1)
            clear hq
            by_cases hw : xw = 2
            · have hw2 : (xw == 2) = true := by rw [beq_iff_eq]; exact hw
              clear hw
              cases hE : gvB U xt xk with
              | true =>
                have hpos : 0 < U xt xk := by unfold gvB at hE; simpa using hE
                obtain ⟨n2, hn2⟩ : ∃ n2, n2 = nn := ⟨_, rfl⟩
                obtain ⟨U2, hU2⟩ : ∃ U2, gvU U xt xk = U2 := ⟨_, rfl⟩
                have HQ2 := Lib.hid (show U2 s 2 = n2 by rw [← hU2, cnt_give HO.out, HQ.out]; exact hn2.symm)
                subst hn2
                have HC1 := Lib.hid (show ∀ u, Lg w tn [⟨g, mb, lo, hi, gs, U⟩] ((nb, 35, #[.int .i64 xw, .string xt, .int .i64 xk, .int .u32 (xa : Int)]) :: []) u → Calls Try.prog 14 #[.pointer (some ⟨g, 0, none⟩), .string xt, .int .i64 xk] u fun e u' => e = .returned (.bool true) ∧ Lg w tn [⟨g, mb, lo, hi, gs, U2⟩] ((nb, 35, #[.int .i64 xw, .string xt, .int .i64 xk, .int .u32 (xa : Int)]) :: []) u' from fun u hu => by have := lg_give hu xt xk HSM.out.1; rwa [hE, hU2] at this)
                clear hE hpos hU2
                go_upto_region 23 with (go_at_call 14; (with_reducible refine (HC1.out _ HVN.out).mono ?_); rintro e u6 ⟨rfl, hv⟩; have HX := Lib.hid hv; clear hv d0 d1 d2)
                have hle : (n2 : Int) ≤ (M : Int) := by have h1 : U2 s 2 ≤ _ := HX.out.lim s 2; rw [HMX2.out] at h1; have h2 := HQ2.out; omega
                have hle2 : ¬ (M : Int) < (n2 : Int) := by omega
                have hle3 : ¬ M < n2 := by omega
                have hle4 : decide (M < n2) = false := decide_eq_false hle3
                have hle5 : decide ((M : Int) < (n2 : Int)) = false := decide_eq_false hle2
                have hnn : decide ((n2 : Int) < 0) = false := decide_eq_false (by omega)
                have hnn2 : ¬ (n2 : Int) < 0 := by omega
                have hne : ((n2 : Int) != (n2 : Int)) = false := bne_self_eq_false _
                have HC3 := Lib.hid (show ∀ u, Lg w tn [⟨g, mb, lo, hi, gs, U2⟩] ((nb, 35, #[.int .i64 xw, .string xt, .int .i64 xk, .int .u32 (xa : Int)]) :: []) u → Calls Try.prog 20 #[.pointer (some ⟨g, 0, none⟩), .string s, .int .i64 2] u fun e u' => e = .returned (.int .i64 (n2 : Int)) ∧ Lg w tn [⟨g, mb, lo, hi, gs, U2⟩] ((nb, 35, #[.int .i64 xw, .string xt, .int .i64 xk, .int .u32 (xa : Int)]) :: []) u' from fun u hu => by have := lg_used hu s 2 HSZ.out; rwa [HQ2.out] at this)
                go_wp2_with (go_at_call 20; (with_reducible refine (HC3.out _ HX.out).mono ?_); rintro e u7 ⟨rfl, hv⟩; have HX7 := Lib.hid hv; clear hv)
                go_roundw
                case rel => exact ⟨i + 1, n2, U2, by omega, by go_num, by go_num, HQ2, Lib.hid (HX7.out.less (L' := []) (fun b hb => by cases hb))⟩
                case measure => simp [intOf]; omega
              | false =>
                have hz : U xt xk = 0 := by unfold gvB at hE; have := of_decide_eq_false hE; omega
                obtain ⟨n2, hn2⟩ : ∃ n2, n2 = nn := ⟨_, rfl⟩
                obtain ⟨U2, hU2⟩ : ∃ U2, gvU U xt xk = U2 := ⟨_, rfl⟩
                have HQ2 := Lib.hid (show U2 s 2 = n2 by rw [← hU2, gvU_zero hz, HQ.out]; exact hn2.symm)
                subst hn2
                have HC1 := Lib.hid (show ∀ u, Lg w tn [⟨g, mb, lo, hi, gs, U⟩] ((nb, 35, #[.int .i64 xw, .string xt, .int .i64 xk, .int .u32 (xa : Int)]) :: []) u → Calls Try.prog 14 #[.pointer (some ⟨g, 0, none⟩), .string xt, .int .i64 xk] u fun e u' => e = .returned (.bool false) ∧ Lg w tn [⟨g, mb, lo, hi, gs, U2⟩] ((nb, 35, #[.int .i64 xw, .string xt, .int .i64 xk, .int .u32 (xa : Int)]) :: []) u' from fun u hu => by have := lg_give hu xt xk HSM.out.1; rwa [hE, hU2] at this)
                clear hE hz hU2
                go_upto_region 23 with (go_at_call 14; (with_reducible refine (HC1.out _ HVN.out).mono ?_); rintro e u6 ⟨rfl, hv⟩; have HX := Lib.hid hv; clear hv d0 d1 d2)
                have hle : (n2 : Int) ≤ (M : Int) := by have h1 : U2 s 2 ≤ _ := HX.out.lim s 2; rw [HMX2.out] at h1; have h2 := HQ2.out; omega
                have hle2 : ¬ (M : Int) < (n2 : Int) := by omega
                have hle3 : ¬ M < n2 := by omega
                have hle4 : decide (M < n2) = false := decide_eq_false hle3
                have hle5 : decide ((M : Int) < (n2 : Int)) = false := decide_eq_false hle2
                have hnn : decide ((n2 : Int) < 0) = false := decide_eq_false (by omega)
                have hnn2 : ¬ (n2 : Int) < 0 := by omega
                have hne : ((n2 : Int) != (n2 : Int)) = false := bne_self_eq_false _
                have HC3 := Lib.hid (show ∀ u, Lg w tn [⟨g, mb, lo, hi, gs, U2⟩] ((nb, 35, #[.int .i64 xw, .string xt, .int .i64 xk, .int .u32 (xa : Int)]) :: []) u → Calls Try.prog 20 #[.pointer (some ⟨g, 0, none⟩), .string s, .int .i64 2] u fun e u' => e = .returned (.int .i64 (n2 : Int)) ∧ Lg w tn [⟨g, mb, lo, hi, gs, U2⟩] ((nb, 35, #[.int .i64 xw, .string xt, .int .i64 xk, .int .u32 (xa : Int)]) :: []) u' from fun u hu => by have := lg_used hu s 2 HSZ.out; rwa [HQ2.out] at this)
                go_wp2_with (go_at_call 20; (with_reducible refine (HC3.out _ HX.out).mono ?_); rintro e u7 ⟨rfl, hv⟩; have HX7 := Lib.hid hv; clear hv)
                go_roundw
                case rel => exact ⟨i + 1, n2, U2, by omega, by go_num, by go_num, HQ2, Lib.hid (HX7.out.less (L' := []) (fun b hb => by cases hb))⟩
                case measure => simp [intOf]; omega
            · have hw2 : (xw == 2) = false := by rw [beq_eq_false_iff_ne]; exact hw
              by_cases hz : xw = 3
              · have hz2 : (xw != 3) = false := by rw [bne_eq_false_iff_eq]; exact hz
                clear hw hz
                obtain ⟨n2, hn2⟩ : ∃ n2, n2 = nn := ⟨_, rfl⟩
                obtain ⟨U2, hU2⟩ : ∃ U2, U = U2 := ⟨_, rfl⟩
                have HQ2 := Lib.hid (show U2 s 2 = n2 by rw [← hU2, HQ.out]; exact hn2.symm)
                have HX := HVN
                rw [hU2] at HX
                subst hn2
                clear hU2
                go_upto_region 23 with fail
                clear d0 d1 d2
                have hle : (n2 : Int) ≤ (M : Int) := by have h1 : U2 s 2 ≤ _ := HX.out.lim s 2; rw [HMX2.out] at h1; have h2 := HQ2.out; omega
                have hle2 : ¬ (M : Int) < (n2 : Int) := by omega
                have hle3 : ¬ M < n2 := by omega
                have hle4 : decide (M < n2) = false := decide_eq_false hle3
                have hle5 : decide ((M : Int) < (n2 : Int)) = false := decide_eq_false hle2
                have hnn : decide ((n2 : Int) < 0) = false := decide_eq_false (by omega)
                have hnn2 : ¬ (n2 : Int) < 0 := by omega
                have hne : ((n2 : Int) != (n2 : Int)) = false := bne_self_eq_false _
                have HC3 := Lib.hid (show ∀ u, Lg w tn [⟨g, mb, lo, hi, gs, U2⟩] ((nb, 35, #[.int .i64 xw, .string xt, .int .i64 xk, .int .u32 (xa : Int)]) :: []) u → Calls Try.prog 20 #[.pointer (some ⟨g, 0, none⟩), .string s, .int .i64 2] u fun e u' => e = .returned (.int .i64 (n2 : Int)) ∧ Lg w tn [⟨g, mb, lo, hi, gs, U2⟩] ((nb, 35, #[.int .i64 xw, .string xt, .int .i64 xk, .int .u32 (xa : Int)]) :: []) u' from fun u hu => by have := lg_used hu s 2 HSZ.out; rwa [HQ2.out] at this)
                go_wp2_with (go_at_call 20; (with_reducible refine (HC3.out _ HX.out).mono ?_); rintro e u7 ⟨rfl, hv⟩; have HX7 := Lib.hid hv; clear hv)
                go_roundw
                case rel => exact ⟨i + 1, n2, U2, by omega, by go_num, by go_num, HQ2, Lib.hid (HX7.out.less (L' := []) (fun b hb => by cases hb))⟩
                case measure => simp [intOf]; omega
              · have hz2 : (xw != 3) = true := by rw [bne_iff_ne]; exact hz
                clear hw hz
                obtain ⟨E, hE⟩ : ∃ E, tkI (gtF tn xt) (U xt xk) xk = E := ⟨_, rfl⟩
                by_cases h0 : E = 0
                · have hEz : (E == 0) = true := by rw [beq_iff_eq]; exact h0
                  obtain ⟨n2, hn2⟩ : ∃ n2, n2 = nn := ⟨_, rfl⟩
                  obtain ⟨U2, hU2⟩ : ∃ U2, tkU (gtF tn xt) U xt xk = U2 := ⟨_, rfl⟩
                  have HQ2 := Lib.hid (show U2 s 2 = n2 by rw [← hU2, cnt_take HO.out, HQ.out]; exact hn2.symm)
                  subst hn2
                  have HC1 := Lib.hid (show ∀ u, Lg w tn [⟨g, mb, lo, hi, gs, U⟩] ((nb, 35, #[.int .i64 xw, .string xt, .int .i64 xk, .int .u32 (xa : Int)]) :: []) u → Calls Try.prog 18 #[.pointer (some ⟨g, 0, none⟩), .string xt, .int .i64 xk] u fun e u' => e = .returned (.int .i64 E) ∧ Lg w tn [⟨g, mb, lo, hi, gs, U2⟩] ((nb, 35, #[.int .i64 xw, .string xt, .int .i64 xk, .int .u32 (xa : Int)]) :: []) u' from fun u hu => by have := lg_take hu xt xk HSM.out.1; rwa [hE, hU2] at this)
                  clear hE hU2 h0
                  go_upto_region 23 with (go_at_call 18; (with_reducible refine (HC1.out _ HVN.out).mono ?_); rintro e u6 ⟨rfl, hv⟩; have HX := Lib.hid hv; clear hv d0 d1 d2)
                  have hle : (n2 : Int) ≤ (M : Int) := by have h1 : U2 s 2 ≤ _ := HX.out.lim s 2; rw [HMX2.out] at h1; have h2 := HQ2.out; omega
                  have hle2 : ¬ (M : Int) < (n2 : Int) := by omega
                  have hle3 : ¬ M < n2 := by omega
                  have hle4 : decide (M < n2) = false := decide_eq_false hle3
                  have hle5 : decide ((M : Int) < (n2 : Int)) = false := decide_eq_false hle2
                  have hnn : decide ((n2 : Int) < 0) = false := decide_eq_false (by omega)
                  have hnn2 : ¬ (n2 : Int) < 0 := by omega
                  have hne : ((n2 : Int) != (n2 : Int)) = false := bne_self_eq_false _
                  have HC3 := Lib.hid (show ∀ u, Lg w tn [⟨g, mb, lo, hi, gs, U2⟩] ((nb, 35, #[.int .i64 xw, .string xt, .int .i64 xk, .int .u32 (xa : Int)]) :: []) u → Calls Try.prog 20 #[.pointer (some ⟨g, 0, none⟩), .string s, .int .i64 2] u fun e u' => e = .returned (.int .i64 (n2 : Int)) ∧ Lg w tn [⟨g, mb, lo, hi, gs, U2⟩] ((nb, 35, #[.int .i64 xw, .string xt, .int .i64 xk, .int .u32 (xa : Int)]) :: []) u' from fun u hu => by have := lg_used hu s 2 HSZ.out; rwa [HQ2.out] at this)
                  go_wp2_with (go_at_call 20; (with_reducible refine (HC3.out _ HX.out).mono ?_); rintro e u7 ⟨rfl, hv⟩; have HX7 := Lib.hid hv; clear hv)
                  go_roundw
                  case rel => exact ⟨i + 1, n2, U2, by omega, by go_num, by go_num, HQ2, Lib.hid (HX7.out.less (L' := []) (fun b hb => by cases hb))⟩
                  case measure => simp [intOf]; omega
                · have hEz : (E == 0) = false := by rw [beq_eq_false_iff_ne]; exact h0
                  obtain ⟨n2, hn2⟩ : ∃ n2, n2 = nn := ⟨_, rfl⟩
                  obtain ⟨U2, hU2⟩ : ∃ U2, tkU (gtF tn xt) U xt xk = U2 := ⟨_, rfl⟩
                  have HQ2 := Lib.hid (show U2 s 2 = n2 by rw [← hU2, cnt_take0 (by rw [hE]; exact h0), HQ.out]; exact hn2.symm)
                  subst hn2
                  have HC1 := Lib.hid (show ∀ u, Lg w tn [⟨g, mb, lo, hi, gs, U⟩] ((nb, 35, #[.int .i64 xw, .string xt, .int .i64 xk, .int .u32 (xa : Int)]) :: []) u → Calls Try.prog 18 #[.pointer (some ⟨g, 0, none⟩), .string xt, .int .i64 xk] u fun e u' => e = .returned (.int .i64 E) ∧ Lg w tn [⟨g, mb, lo, hi, gs, U2⟩] ((nb, 35, #[.int .i64 xw, .string xt, .int .i64 xk, .int .u32 (xa : Int)]) :: []) u' from fun u hu => by have := lg_take hu xt xk HSM.out.1; rwa [hE, hU2] at this)
                  clear hE hU2 h0
                  go_upto_region 23 with (go_at_call 18; (with_reducible refine (HC1.out _ HVN.out).mono ?_); rintro e u6 ⟨rfl, hv⟩; have HX := Lib.hid hv; clear hv d0 d1 d2)
                  have hle : (n2 : Int) ≤ (M : Int) := by have h1 : U2 s 2 ≤ _ := HX.out.lim s 2; rw [HMX2.out] at h1; have h2 := HQ2.out; omega
                  have hle2 : ¬ (M : Int) < (n2 : Int) := by omega
                  have hle3 : ¬ M < n2 := by omega
                  have hle4 : decide (M < n2) = false := decide_eq_false hle3
                  have hle5 : decide ((M : Int) < (n2 : Int)) = false := decide_eq_false hle2
                  have hnn : decide ((n2 : Int) < 0) = false := decide_eq_false (by omega)
                  have hnn2 : ¬ (n2 : Int) < 0 := by omega
                  have hne : ((n2 : Int) != (n2 : Int)) = false := bne_self_eq_false _
                  have HC3 := Lib.hid (show ∀ u, Lg w tn [⟨g, mb, lo, hi, gs, U2⟩] ((nb, 35, #[.int .i64 xw, .string xt, .int .i64 xk, .int .u32 (xa : Int)]) :: []) u → Calls Try.prog 20 #[.pointer (some ⟨g, 0, none⟩), .string s, .int .i64 2] u fun e u' => e = .returned (.int .i64 (n2 : Int)) ∧ Lg w tn [⟨g, mb, lo, hi, gs, U2⟩] ((nb, 35, #[.int .i64 xw, .string xt, .int .i64 xk, .int .u32 (xa : Int)]) :: []) u' from fun u hu => by have := lg_used hu s 2 HSZ.out; rwa [HQ2.out] at this)
                  go_wp2_with (go_at_call 20; (with_reducible refine (HC3.out _ HX.out).mono ?_); rintro e u7 ⟨rfl, hv⟩; have HX7 := Lib.hid hv; clear hv)
                  go_roundw
                  case rel => exact ⟨i + 1, n2, U2, by omega, by go_num, by go_num, HQ2, Lib.hid (HX7.out.less (L' := []) (fun b hb => by cases hb))⟩
                  case measure => simp [intOf]; omega
        · have hi2 : ¬ (i : Int) < (nl : Int) := by omega
          go_wp2
          go_ret
          exact ⟨by first | rfl | simp, HV.out.l⟩
    · have hm2 : decide ((1000 : Int) < (s.size : Int)) = true := decide_eq_true (by omega)
      go_wp2_with (first
        | (go_at_call 10; (with_reducible refine (HGR.out _ HV2.out.l).mono ?_); rintro e u3 ⟨gr, rfl, _, hb⟩; have HV3 := Lib.hid (HV2.out.on hb); clear hb; clear e0 e1 e2 e3 e4; have e0 : u3.cell? ⟨g0, 0, none⟩ = some (.int .i64 a0) := HV3.out.head.cell 0; have e1 : u3.cell? ⟨g0, 1, none⟩ = some (.int .i64 a1) := HV3.out.head.cell 1; have e2 : u3.cell? ⟨g0, 2, none⟩ = some (.int .i64 a2) := HV3.out.head.cell 2; have e3 : u3.cell? ⟨g0, 3, none⟩ = some (.int .i64 a3) := HV3.out.head.cell 3; have e4 : u3.cell? ⟨g0, 4, none⟩ = some (.slice A n c) := HV3.out.head.cell 4; cases gr)
        | (go_at_call 11; (with_reducible refine (HGO.out _ HV3.out.l).mono ?_); rintro e u4 ⟨gr2, rfl, hob, hb⟩; have HV4 := Lib.hid (HV3.out.on hb); have HOB := Lib.hid hob; clear hb hob; clear e0 e1 e2 e3 e4; have e0 : u4.cell? ⟨g0, 0, none⟩ = some (.int .i64 a0) := HV4.out.head.cell 0; have e1 : u4.cell? ⟨g0, 1, none⟩ = some (.int .i64 a1) := HV4.out.head.cell 1; have e2 : u4.cell? ⟨g0, 2, none⟩ = some (.int .i64 a2) := HV4.out.head.cell 2; have e3 : u4.cell? ⟨g0, 3, none⟩ = some (.int .i64 a3) := HV4.out.head.cell 3; have e4 : u4.cell? ⟨g0, 4, none⟩ = some (.slice A n c) := HV4.out.head.cell 4; cases gr2))
      all_goals go_ret
      all_goals first | exact ⟨rfl, HV3.out.l⟩ | exact ⟨rfl, HV4.out.l⟩

set_option maxRecDepth 100000 in
set_option maxHeartbeats 16000000 in
theorem cnt_k (x : Cv) (B : Option Addr) (lo0 : List Go4) (d : Nat) (s : ByteArray) (k : Int) (w : World) (h : InCf w x) (ho : InG w B lo0 d) (hs : s.size ≤ 140737488355328) (hk1 : ¬ k = 1) (hk2 : ¬ k = 2) :
    Calls Try.prog 4 #[.agg (ccs x), .slice B lo0.length d, .string s, .int .i64 k] w fun e w' => e = .returned (.bool true) ∧ Below w.heap.size w w' := by
  have HGR := Lib.hid (fun u (hu : Below w.heap.size w u) => great_ok x u (h.onG hu))
  have HN0 := Lib.hid (fun (hc : cfgB x.cg = false) => gnew_no h.rc hc)
  have HN1 := Lib.hid (fun (hc : cfgB x.cg = true) => gnew_yes h.rc hc)
  have HRT := Lib.hid h.rc.r
  have HMX := Lib.hid h.rc.f.max
  have HCP := Lib.hid h.rc.f.cap
  have HTE := Lib.hid (fun (hc : cfgB x.cg = true) => (cfgB_parts hc).2.2.2.2.2.2)
  have HTN := Lib.hid (show ∀ s, (fT s x.ts).map (·.t) = gtF x.cg.tens s from fun s => gtF_tens s x.ts)
  have HGO := Lib.hid (fun u (hu : Below w.heap.size w u) => ggreat_ok B lo0 d u (ho.on hu))
  have HOP := Lib.hid ho
  obtain ⟨C, hC⟩ : ∃ C, cfgB x.cg = C := ⟨_, rfl⟩
  simp only [hC] at HN0 HN1 HTE
  obtain ⟨tn, htn⟩ : ∃ tn, x.cg.tens = tn := ⟨_, rfl⟩
  rw [htn] at HN1 HTE HTN
  obtain ⟨a0, a1, a2, a3, ts, A, c⟩ := x
  obtain ⟨n, hn⟩ : ∃ n, ts.length = n := ⟨_, rfl⟩
  have HN := Lib.hid hn
  dsimp only at HRT HMX HCP HTN
  simp only [ccs, hn] at HGR HN0 HN1 ⊢
  have HX := Lib.hid (show Bx w w.heap.size 24 #[.int .i64 a0, .int .i64 a1, .int .i64 a2, .int .i64 a3, .slice A n c] (w.alloc (.cells #[.int .i64 a0, .int .i64 a1, .int .i64 a2, .int .i64 a3, .slice A n c] 24)) from Bx.new w _ _)
  clear h hn hC htn
  obtain ⟨nl, hnl⟩ : ∃ k, lo0.length = k := ⟨_, rfl⟩
  have HNL := Lib.hid hnl
  have hnl47 : nl ≤ 140737488355328 := by rw [← hnl]; exact ho.n
  rw [hnl] at HGO ⊢
  clear hnl ho
  have hk3 : (k == 1) = false := by rw [beq_eq_false_iff_ne]; exact hk1
  have hk4 : (k == 2) = false := by rw [beq_eq_false_iff_ne]; exact hk2
  have HKN := Lib.hid (And.intro hk1 hk2)
  clear hk1 hk2
  go_enter Try.func4, Try.ntmps4
  go_upto_region 2 with (go_at_call 9; refine (ghead_ok _).mono ?_; rintro e u1 ⟨rfl, hb⟩; have HX1 := Lib.hid (HX.out.on hb); clear hb)
  obtain ⟨g0, hg0⟩ : ∃ g, w.heap.size = g := ⟨_, rfl⟩
  have HG0 := Lib.hid hg0
  rw [hg0] at HX1 ⊢
  clear hg0
  have e0 : u1.cell? ⟨g0, 0, none⟩ = some (.int .i64 a0) := HX1.out.b.cell 0
  have e1 : u1.cell? ⟨g0, 1, none⟩ = some (.int .i64 a1) := HX1.out.b.cell 1
  have e2 : u1.cell? ⟨g0, 2, none⟩ = some (.int .i64 a2) := HX1.out.b.cell 2
  have e3 : u1.cell? ⟨g0, 3, none⟩ = some (.int .i64 a3) := HX1.out.b.cell 3
  have e4 : u1.cell? ⟨g0, 4, none⟩ = some (.slice A n c) := HX1.out.b.cell 4
  cases C with
  | false =>
    go_wp2_with (go_at_call 12; (with_reducible refine (HN0.out (by first | rfl | trivial) _ HX1.out.l).mono ?_); rintro e u2 ⟨rfl, hb⟩; have HX2 := Lib.hid (HX1.out.on hb); clear hb)
    go_ret
    exact ⟨rfl, HX2.out.l⟩
  | true =>
    have HL0 := Lib.hid (show Lg w tn [] [(g0, 24, #[.int .i64 a0, .int .i64 a1, .int .i64 a2, .int .i64 a3, .slice A n c])] u1 from ⟨(fun G hG => by cases hG), .nil, (fun b hb => by obtain rfl := List.mem_singleton.1 hb; exact ⟨HX1.out.b, gcfg_ne⟩), HX1.out.l⟩)
    go_upto_region 3 with (go_at_call 12; (with_reducible refine (HN1.out (by first | rfl | trivial) _ _ _ HL0.out).mono ?_); rintro e u2 ⟨g, mb, lo, hi, gs, rfl, hv⟩; have HV2 := Lib.hid hv; clear hv)
    clear e0 e1 e2 e3 e4
    have e0 : u2.cell? ⟨g0, 0, none⟩ = some (.int .i64 a0) := HV2.out.head.cell 0
    have e1 : u2.cell? ⟨g0, 1, none⟩ = some (.int .i64 a1) := HV2.out.head.cell 1
    have e2 : u2.cell? ⟨g0, 2, none⟩ = some (.int .i64 a2) := HV2.out.head.cell 2
    have e3 : u2.cell? ⟨g0, 3, none⟩ = some (.int .i64 a3) := HV2.out.head.cell 3
    have e4 : u2.cell? ⟨g0, 4, none⟩ = some (.slice A n c) := HV2.out.head.cell 4
    by_cases hm1 : s.size ≤ 1000
    · have hm2 : decide ((1000 : Int) < (s.size : Int)) = false := decide_eq_false (by omega)
      have HFI := Lib.hid (fun u (hu : Below w.heap.size w u) => rfind_ok (.int .i64 a0) (.int .i64 a1) (.int .i64 a2) (.int .i64 a3) A ts n c s u (HRT.out.on hu) HN.out (by have h1 := HMX.out; have h2 := HCP.out; rw [HN.out] at h2; omega))
      have HFN := Lib.hid (find_num HTN.out (HTE.out (by first | rfl | trivial)) s)
      obtain ⟨⟨⟨yn, ya, yb, ynl, ykl⟩, yAn, ycn, yAk, yck⟩, hy⟩ : ∃ y, (fT s ts).getD zeroTv = y := ⟨_, rfl⟩
      obtain ⟨is, his⟩ : ∃ is, (fT s ts).isSome = is := ⟨_, rfl⟩
      rw [hy, his] at HFI
      rw [hy, his] at HFN
      obtain ⟨M1, hM1⟩ : ∃ M1, mxO (gtF tn s) 1 = M1 := ⟨_, rfl⟩
      obtain ⟨M2, hM2⟩ : ∃ M2, mxO (gtF tn s) 2 = M2 := ⟨_, rfl⟩
      obtain ⟨f1, f2, f3, f4, f5, f6⟩ := HFN.out
      dsimp only at f1 f2
      rw [hM1] at f1 f4
      rw [hM2] at f2 f5
      subst f1 f2
      have HMX2 := Lib.hid (show mxO (gtF tn s) k = 0 from by cases hq : gtF tn s with
        | none => rfl
        | some t => exact mxT_not (by unfold cnB; rw [decide_eq_false HKN.out.1, decide_eq_false HKN.out.2]; rfl))
      have HSZ := Lib.hid hs
      simp only [tcs] at HFI
      clear hy his hM1 hM2 f3 f4 f5 f6 HFN HN0 HN1 HTE HTN
      go_upto_region 6 with (first
        | (go_at_call 10; (with_reducible refine (HGR.out _ HV2.out.l).mono ?_); rintro e u3 ⟨gr, rfl, _, hb⟩; have HV3 := Lib.hid (HV2.out.on hb); clear hb; clear e0 e1 e2 e3 e4; have e0 : u3.cell? ⟨g0, 0, none⟩ = some (.int .i64 a0) := HV3.out.head.cell 0; have e1 : u3.cell? ⟨g0, 1, none⟩ = some (.int .i64 a1) := HV3.out.head.cell 1; have e2 : u3.cell? ⟨g0, 2, none⟩ = some (.int .i64 a2) := HV3.out.head.cell 2; have e3 : u3.cell? ⟨g0, 3, none⟩ = some (.int .i64 a3) := HV3.out.head.cell 3; have e4 : u3.cell? ⟨g0, 4, none⟩ = some (.slice A n c) := HV3.out.head.cell 4; cases gr)
        | (go_at_call 11; (with_reducible refine (HGO.out _ HV3.out.l).mono ?_); rintro e u4 ⟨gr2, rfl, hob, hb⟩; have HV4 := Lib.hid (HV3.out.on hb); have HOB := Lib.hid hob; clear hb hob; clear e0 e1 e2 e3 e4; have e0 : u4.cell? ⟨g0, 0, none⟩ = some (.int .i64 a0) := HV4.out.head.cell 0; have e1 : u4.cell? ⟨g0, 1, none⟩ = some (.int .i64 a1) := HV4.out.head.cell 1; have e2 : u4.cell? ⟨g0, 2, none⟩ = some (.int .i64 a2) := HV4.out.head.cell 2; have e3 : u4.cell? ⟨g0, 3, none⟩ = some (.int .i64 a3) := HV4.out.head.cell 3; have e4 : u4.cell? ⟨g0, 4, none⟩ = some (.slice A n c) := HV4.out.head.cell 4; cases gr2)
        | (go_at_call 22; (with_reducible refine (HFI.out _ HV4.out.l).mono ?_); rintro e u5 ⟨rfl, hb⟩; have HV5 := Lib.hid ((HV4.out.on hb).new 45 #[.string yn, .int .i64 (M1 : Int), .int .i64 (M2 : Int), .slice yAn ynl.length ycn, .slice yAk ykl.length yck] (by decide)); clear hb))
      any_goals (go_ret; first | exact ⟨rfl, HV3.out.l⟩ | exact ⟨rfl, HV4.out.l⟩)
      have hnb : nl ≤ 200 := by have := HOB.out (by first | rfl | trivial); rw [HNL.out] at this; exact this
      clear e0 e1 e2 e3 e4 HGR HGO HFI HOB
      obtain ⟨wb, hwb⟩ : ∃ wb, u5.alloc (.cells #[.string yn, .int .i64 (M1 : Int), .int .i64 (M2 : Int), .slice yAn ynl.length ycn, .slice yAk ykl.length yck] 45) = wb := ⟨_, rfl⟩
      rw [hwb] at HV5 ⊢
      have t1 : wb.cell? ⟨u5.heap.size, 1, none⟩ = some (.int .i64 (M1 : Int)) := HV5.out.head.cell 1
      have t2 : wb.cell? ⟨u5.heap.size, 2, none⟩ = some (.int .i64 (M2 : Int)) := HV5.out.head.cell 2
      clear hwb
      go_wp2_with fail
      clear t1 t2
      have HMF := Lib.hid (show ∃ M : Nat, M = 0 from ⟨_, rfl⟩)
      clear HMF
      go_loopw [14, 15] (fun v14 v15 wr => ∃ (i nn : Nat) (U : Us), i ≤ nl ∧ v14 = .int .i64 (nn : Int) ∧ v15 = .int .i64 (i : Int) ∧ Hid (U s k = nn) ∧ Hid (Lg w tn [⟨g, mb, lo, hi, gs, U⟩] [] wr)) (fun _ v15 _ => nl - (intOf v15).toNat)
      case atStart => exact ⟨0, 0, U0, by omega, rfl, rfl, Lib.hid rfl, Lib.hid (HV5.out.less (L' := []) (fun b hb => by cases hb))⟩
      case round =>
        obtain ⟨i, nn, U, hi0, rfl, rfl, HQ, HV⟩ := hrel
        have HN8 := Lib.hid (show nn ≤ 8 by have := HV.out.le8 s k; rw [← HQ.out]; exact this)
        by_cases hi1 : i < nl
        · have hi2 : (i : Int) < (nl : Int) := by omega
          obtain ⟨b, o, x, rfl, hx, hsm, hc⟩ := HOP.out.at4 i (by rw [HNL.out]; exact hi1)
          obtain ⟨c0, c1, c2, c3⟩ := hc wr HV.out.l
          obtain ⟨xw, xt, xk, xa⟩ := x
          dsimp only at c0 c1 c2 c3
          have HSM := Lib.hid hsm
          clear hc hx hsm
          go_upto_region 16 with fail
          clear c0 c1 c2 c3
          have HVN := Lib.hid (HV.out.new 35 #[.int .i64 xw, .string xt, .int .i64 xk, .int .u32 (xa : Int)] (by decide))
          obtain ⟨v0, hv0⟩ : ∃ v, wr.alloc (.cells #[.int .i64 xw, .string xt, .int .i64 xk, .int .u32 (xa : Int)] 35) = v := ⟨_, rfl⟩
          obtain ⟨nb, hnb2⟩ : ∃ nb, wr.heap.size = nb := ⟨_, rfl⟩
          rw [hv0] at HVN ⊢
          rw [hnb2] at HVN ⊢
          clear hv0 hnb2
          have d0 : v0.cell? ⟨nb, 0, none⟩ = some (.int .i64 xw) := HVN.out.head.cell 0
          have d1 : v0.cell? ⟨nb, 1, none⟩ = some (.string xt) := HVN.out.head.cell 1
          have d2 : v0.cell? ⟨nb, 2, none⟩ = some (.int .i64 xk) := HVN.out.head.cell 2
          by_cases hq : xt = s
          · have hq2 : (xt.toList == s.toList) = true := by rw [hq]; exact beq_self_eq_true _
            by_cases hq3 : xk = k
            · have hq4 : (xk == k) = true := by rw [beq_iff_eq]; exact hq3
              have HO := Lib.hid (And.intro hq hq3)
              clear hq hq3
              by_cases hw : xw = 2
              · have hw2 : (xw == 2) = true := by rw [beq_iff_eq]; exact hw
                clear hw
                cases hE : gvB U xt xk with
                | true =>
                  have hpos : 0 < U xt xk := by unfold gvB at hE; simpa using hE
                  obtain ⟨n2, hn2⟩ : ∃ n2, nn = n2 + 1 := ⟨nn - 1, by have h1 := HQ.out; rw [HO.out.1, HO.out.2] at hpos; omega⟩
                  obtain ⟨U2, hU2⟩ : ∃ U2, gvU U xt xk = U2 := ⟨_, rfl⟩
                  have HQ2 := Lib.hid (show U2 s k = n2 by rw [← hU2, HO.out.1, HO.out.2]; unfold gvU; rw [stU_same, HQ.out]; omega)
                  subst hn2
                  have hn8 : n2 ≤ 8 := by have := HN8.out; omega
                  have HC1 := Lib.hid (show ∀ u, Lg w tn [⟨g, mb, lo, hi, gs, U⟩] ((nb, 35, #[.int .i64 xw, .string xt, .int .i64 xk, .int .u32 (xa : Int)]) :: []) u → Calls Try.prog 14 #[.pointer (some ⟨g, 0, none⟩), .string xt, .int .i64 xk] u fun e u' => e = .returned (.bool true) ∧ Lg w tn [⟨g, mb, lo, hi, gs, U2⟩] ((nb, 35, #[.int .i64 xw, .string xt, .int .i64 xk, .int .u32 (xa : Int)]) :: []) u' from fun u hu => by have := lg_give hu xt xk HSM.out.1; rwa [hE, hU2] at this)
                  clear hE hpos hU2
                  go_upto_region 23 with (go_at_call 14; (with_reducible refine (HC1.out _ HVN.out).mono ?_); rintro e u6 ⟨rfl, hv⟩; have HX := Lib.hid hv; clear hv d0 d1 d2)
                  have hle : (n2 : Int) ≤ (0 : Int) := by have h1 : U2 s k ≤ _ := HX.out.lim s k; rw [HMX2.out] at h1; have h2 := HQ2.out; omega
                  have hle2 : ¬ (0 : Int) < (n2 : Int) := by omega
                  have hle3 : ¬ 0 < n2 := by omega
                  have hle4 : decide (0 < n2) = false := decide_eq_false hle3
                  have hle5 : decide ((0 : Int) < (n2 : Int)) = false := decide_eq_false hle2
                  have hnn : decide ((n2 : Int) < 0) = false := decide_eq_false (by omega)
                  have hnn2 : ¬ (n2 : Int) < 0 := by omega
                  have hne : ((n2 : Int) != (n2 : Int)) = false := bne_self_eq_false _
                  have HC3 := Lib.hid (show ∀ u, Lg w tn [⟨g, mb, lo, hi, gs, U2⟩] ((nb, 35, #[.int .i64 xw, .string xt, .int .i64 xk, .int .u32 (xa : Int)]) :: []) u → Calls Try.prog 20 #[.pointer (some ⟨g, 0, none⟩), .string s, .int .i64 k] u fun e u' => e = .returned (.int .i64 (n2 : Int)) ∧ Lg w tn [⟨g, mb, lo, hi, gs, U2⟩] ((nb, 35, #[.int .i64 xw, .string xt, .int .i64 xk, .int .u32 (xa : Int)]) :: []) u' from fun u hu => by have := lg_used hu s k HSZ.out; rwa [HQ2.out] at this)
                  go_wp2_with (go_at_call 20; (with_reducible refine (HC3.out _ HX.out).mono ?_); rintro e u7 ⟨rfl, hv⟩; have HX7 := Lib.hid hv; clear hv)
                  go_roundw
                  case rel => exact ⟨i + 1, n2, U2, by omega, by go_num, by go_num, HQ2, Lib.hid (HX7.out.less (L' := []) (fun b hb => by cases hb))⟩
                  case measure => simp [intOf]; omega
                | false =>
                  have hz : U xt xk = 0 := by unfold gvB at hE; have := of_decide_eq_false hE; omega
                  obtain ⟨n2, hn2⟩ : ∃ n2, n2 = nn := ⟨_, rfl⟩
                  obtain ⟨U2, hU2⟩ : ∃ U2, gvU U xt xk = U2 := ⟨_, rfl⟩
                  have HQ2 := Lib.hid (show U2 s k = n2 by rw [← hU2, gvU_zero hz, HQ.out]; exact hn2.symm)
                  subst hn2
                  have HC1 := Lib.hid (show ∀ u, Lg w tn [⟨g, mb, lo, hi, gs, U⟩] ((nb, 35, #[.int .i64 xw, .string xt, .int .i64 xk, .int .u32 (xa : Int)]) :: []) u → Calls Try.prog 14 #[.pointer (some ⟨g, 0, none⟩), .string xt, .int .i64 xk] u fun e u' => e = .returned (.bool false) ∧ Lg w tn [⟨g, mb, lo, hi, gs, U2⟩] ((nb, 35, #[.int .i64 xw, .string xt, .int .i64 xk, .int .u32 (xa : Int)]) :: []) u' from fun u hu => by have := lg_give hu xt xk HSM.out.1; rwa [hE, hU2] at this)
                  clear hE hz hU2
                  go_upto_region 23 with (go_at_call 14; (with_reducible refine (HC1.out _ HVN.out).mono ?_); rintro e u6 ⟨rfl, hv⟩; have HX := Lib.hid hv; clear hv d0 d1 d2)
                  have hle : (n2 : Int) ≤ (0 : Int) := by have h1 : U2 s k ≤ _ := HX.out.lim s k; rw [HMX2.out] at h1; have h2 := HQ2.out; omega
                  have hle2 : ¬ (0 : Int) < (n2 : Int) := by omega
                  have hle3 : ¬ 0 < n2 := by omega
                  have hle4 : decide (0 < n2) = false := decide_eq_false hle3
                  have hle5 : decide ((0 : Int) < (n2 : Int)) = false := decide_eq_false hle2
                  have hnn : decide ((n2 : Int) < 0) = false := decide_eq_false (by omega)
                  have hnn2 : ¬ (n2 : Int) < 0 := by omega
                  have hne : ((n2 : Int) != (n2 : Int)) = false := bne_self_eq_false _
                  have HC3 := Lib.hid (show ∀ u, Lg w tn [⟨g, mb, lo, hi, gs, U2⟩] ((nb, 35, #[.int .i64 xw, .string xt, .int .i64 xk, .int .u32 (xa : Int)]) :: []) u → Calls Try.prog 20 #[.pointer (some ⟨g, 0, none⟩), .string s, .int .i64 k] u fun e u' => e = .returned (.int .i64 (n2 : Int)) ∧ Lg w tn [⟨g, mb, lo, hi, gs, U2⟩] ((nb, 35, #[.int .i64 xw, .string xt, .int .i64 xk, .int .u32 (xa : Int)]) :: []) u' from fun u hu => by have := lg_used hu s k HSZ.out; rwa [HQ2.out] at this)
                  go_wp2_with (go_at_call 20; (with_reducible refine (HC3.out _ HX.out).mono ?_); rintro e u7 ⟨rfl, hv⟩; have HX7 := Lib.hid hv; clear hv)
                  go_roundw
                  case rel => exact ⟨i + 1, n2, U2, by omega, by go_num, by go_num, HQ2, Lib.hid (HX7.out.less (L' := []) (fun b hb => by cases hb))⟩
                  case measure => simp [intOf]; omega
              · have hw2 : (xw == 2) = false := by rw [beq_eq_false_iff_ne]; exact hw
                by_cases hz : xw = 3
                · have hz2 : (xw != 3) = false := by rw [bne_eq_false_iff_eq]; exact hz
                  clear hw hz
                  obtain ⟨n2, hn2⟩ : ∃ n2, n2 = nn := ⟨_, rfl⟩
                  obtain ⟨U2, hU2⟩ : ∃ U2, U = U2 := ⟨_, rfl⟩
                  have HQ2 := Lib.hid (show U2 s k = n2 by rw [← hU2, HQ.out]; exact hn2.symm)
                  have HX := HVN
                  rw [hU2] at HX
                  subst hn2
                  clear hU2
                  go_upto_region 23 with fail
                  clear d0 d1 d2
                  have hle : (n2 : Int) ≤ (0 : Int) := by have h1 : U2 s k ≤ _ := HX.out.lim s k; rw [HMX2.out] at h1; have h2 := HQ2.out; omega
                  have hle2 : ¬ (0 : Int) < (n2 : Int) := by omega
                  have hle3 : ¬ 0 < n2 := by omega
                  have hle4 : decide (0 < n2) = false := decide_eq_false hle3
                  have hle5 : decide ((0 : Int) < (n2 : Int)) = false := decide_eq_false hle2
                  have hnn : decide ((n2 : Int) < 0) = false := decide_eq_false (by omega)
                  have hnn2 : ¬ (n2 : Int) < 0 := by omega
                  have hne : ((n2 : Int) != (n2 : Int)) = false := bne_self_eq_false _
                  have HC3 := Lib.hid (show ∀ u, Lg w tn [⟨g, mb, lo, hi, gs, U2⟩] ((nb, 35, #[.int .i64 xw, .string xt, .int .i64 xk, .int .u32 (xa : Int)]) :: []) u → Calls Try.prog 20 #[.pointer (some ⟨g, 0, none⟩), .string s, .int .i64 k] u fun e u' => e = .returned (.int .i64 (n2 : Int)) ∧ Lg w tn [⟨g, mb, lo, hi, gs, U2⟩] ((nb, 35, #[.int .i64 xw, .string xt, .int .i64 xk, .int .u32 (xa : Int)]) :: []) u' from fun u hu => by have := lg_used hu s k HSZ.out; rwa [HQ2.out] at this)
                  go_wp2_with (go_at_call 20; (with_reducible refine (HC3.out _ HX.out).mono ?_); rintro e u7 ⟨rfl, hv⟩; have HX7 := Lib.hid hv; clear hv)
                  go_roundw
                  case rel => exact ⟨i + 1, n2, U2, by omega, by go_num, by go_num, HQ2, Lib.hid (HX7.out.less (L' := []) (fun b hb => by cases hb))⟩
                  case measure => simp [intOf]; omega
                · have hz2 : (xw != 3) = true := by rw [bne_iff_ne]; exact hz
                  clear hw hz
                  obtain ⟨E, hE⟩ : ∃ E, tkI (gtF tn xt) (U xt xk) xk = E := ⟨_, rfl⟩
                  by_cases h0 : E = 0
                  · exfalso
                    have h1 := hE.trans h0
                    rw [HO.out.1, HO.out.2, tkI_not (by unfold cnB; rw [decide_eq_false HKN.out.1, decide_eq_false HKN.out.2]; rfl)] at h1
                    exact absurd h1 (by decide)
                  · have hEz : (E == 0) = false := by rw [beq_eq_false_iff_ne]; exact h0
                    obtain ⟨n2, hn2⟩ : ∃ n2, n2 = nn := ⟨_, rfl⟩
                    obtain ⟨U2, hU2⟩ : ∃ U2, tkU (gtF tn xt) U xt xk = U2 := ⟨_, rfl⟩
                    have HQ2 := Lib.hid (show U2 s k = n2 by rw [← hU2, cnt_take0 (by rw [hE]; exact h0), HQ.out]; exact hn2.symm)
                    subst hn2
                    have HC1 := Lib.hid (show ∀ u, Lg w tn [⟨g, mb, lo, hi, gs, U⟩] ((nb, 35, #[.int .i64 xw, .string xt, .int .i64 xk, .int .u32 (xa : Int)]) :: []) u → Calls Try.prog 18 #[.pointer (some ⟨g, 0, none⟩), .string xt, .int .i64 xk] u fun e u' => e = .returned (.int .i64 E) ∧ Lg w tn [⟨g, mb, lo, hi, gs, U2⟩] ((nb, 35, #[.int .i64 xw, .string xt, .int .i64 xk, .int .u32 (xa : Int)]) :: []) u' from fun u hu => by have := lg_take hu xt xk HSM.out.1; rwa [hE, hU2] at this)
                    clear hE hU2 h0
                    go_upto_region 23 with (go_at_call 18; (with_reducible refine (HC1.out _ HVN.out).mono ?_); rintro e u6 ⟨rfl, hv⟩; have HX := Lib.hid hv; clear hv d0 d1 d2)
                    have hle : (n2 : Int) ≤ (0 : Int) := by have h1 : U2 s k ≤ _ := HX.out.lim s k; rw [HMX2.out] at h1; have h2 := HQ2.out; omega
                    have hle2 : ¬ (0 : Int) < (n2 : Int) := by omega
                    have hle3 : ¬ 0 < n2 := by omega
                    have hle4 : decide (0 < n2) = false := decide_eq_false hle3
                    have hle5 : decide ((0 : Int) < (n2 : Int)) = false := decide_eq_false hle2
                    have hnn : decide ((n2 : Int) < 0) = false := decide_eq_false (by omega)
                    have hnn2 : ¬ (n2 : Int) < 0 := by omega
                    have hne : ((n2 : Int) != (n2 : Int)) = false := bne_self_eq_false _
                    have HC3 := Lib.hid (show ∀ u, Lg w tn [⟨g, mb, lo, hi, gs, U2⟩] ((nb, 35, #[.int .i64 xw, .string xt, .int .i64 xk, .int .u32 (xa : Int)]) :: []) u → Calls Try.prog 20 #[.pointer (some ⟨g, 0, none⟩), .string s, .int .i64 k] u fun e u' => e = .returned (.int .i64 (n2 : Int)) ∧ Lg w tn [⟨g, mb, lo, hi, gs, U2⟩] ((nb, 35, #[.int .i64 xw, .string xt, .int .i64 xk, .int .u32 (xa : Int)]) :: []) u' from fun u hu => by have := lg_used hu s k HSZ.out; rwa [HQ2.out] at this)
                    go_wp2_with (go_at_call 20; (with_reducible refine (HC3.out _ HX.out).mono ?_); rintro e u7 ⟨rfl, hv⟩; have HX7 := Lib.hid hv; clear hv)
                    go_roundw
                    case rel => exact ⟨i + 1, n2, U2, by omega, by go_num, by go_num, HQ2, Lib.hid (HX7.out.less (L' := []) (fun b hb => by cases hb))⟩
                    case measure => simp [intOf]; omega
            · have hq4 : (xk == k) = false := by rw [beq_eq_false_iff_ne]; exact hq3
              have HO := Lib.hid (show ¬ (xt = s ∧ xk = k) from fun h => hq3 h.2)
              clear hq hq3
              by_cases hw : xw = 2
              · have hw2 : (xw == 2) = true := by rw [beq_iff_eq]; exact hw
                clear hw
                cases hE : gvB U xt xk with
                | true =>
                  have hpos : 0 < U xt xk := by unfold gvB at hE; simpa using hE
                  obtain ⟨n2, hn2⟩ : ∃ n2, n2 = nn := ⟨_, rfl⟩
                  obtain ⟨U2, hU2⟩ : ∃ U2, gvU U xt xk = U2 := ⟨_, rfl⟩
                  have HQ2 := Lib.hid (show U2 s k = n2 by rw [← hU2, cnt_give HO.out, HQ.out]; exact hn2.symm)
                  subst hn2
                  have HC1 := Lib.hid (show ∀ u, Lg w tn [⟨g, mb, lo, hi, gs, U⟩] ((nb, 35, #[.int .i64 xw, .string xt, .int .i64 xk, .int .u32 (xa : Int)]) :: []) u → Calls Try.prog 14 #[.pointer (some ⟨g, 0, none⟩), .string xt, .int .i64 xk] u fun e u' => e = .returned (.bool true) ∧ Lg w tn [⟨g, mb, lo, hi, gs, U2⟩] ((nb, 35, #[.int .i64 xw, .string xt, .int .i64 xk, .int .u32 (xa : Int)]) :: []) u' from fun u hu => by have := lg_give hu xt xk HSM.out.1; rwa [hE, hU2] at this)
                  clear hE hpos hU2
                  go_upto_region 23 with (go_at_call 14; (with_reducible refine (HC1.out _ HVN.out).mono ?_); rintro e u6 ⟨rfl, hv⟩; have HX := Lib.hid hv; clear hv d0 d1 d2)
                  have hle : (n2 : Int) ≤ (0 : Int) := by have h1 : U2 s k ≤ _ := HX.out.lim s k; rw [HMX2.out] at h1; have h2 := HQ2.out; omega
                  have hle2 : ¬ (0 : Int) < (n2 : Int) := by omega
                  have hle3 : ¬ 0 < n2 := by omega
                  have hle4 : decide (0 < n2) = false := decide_eq_false hle3
                  have hle5 : decide ((0 : Int) < (n2 : Int)) = false := decide_eq_false hle2
                  have hnn : decide ((n2 : Int) < 0) = false := decide_eq_false (by omega)
                  have hnn2 : ¬ (n2 : Int) < 0 := by omega
                  have hne : ((n2 : Int) != (n2 : Int)) = false := bne_self_eq_false _
                  have HC3 := Lib.hid (show ∀ u, Lg w tn [⟨g, mb, lo, hi, gs, U2⟩] ((nb, 35, #[.int .i64 xw, .string xt, .int .i64 xk, .int .u32 (xa : Int)]) :: []) u → Calls Try.prog 20 #[.pointer (some ⟨g, 0, none⟩), .string s, .int .i64 k] u fun e u' => e = .returned (.int .i64 (n2 : Int)) ∧ Lg w tn [⟨g, mb, lo, hi, gs, U2⟩] ((nb, 35, #[.int .i64 xw, .string xt, .int .i64 xk, .int .u32 (xa : Int)]) :: []) u' from fun u hu => by have := lg_used hu s k HSZ.out; rwa [HQ2.out] at this)
                  go_wp2_with (go_at_call 20; (with_reducible refine (HC3.out _ HX.out).mono ?_); rintro e u7 ⟨rfl, hv⟩; have HX7 := Lib.hid hv; clear hv)
                  go_roundw
                  case rel => exact ⟨i + 1, n2, U2, by omega, by go_num, by go_num, HQ2, Lib.hid (HX7.out.less (L' := []) (fun b hb => by cases hb))⟩
                  case measure => simp [intOf]; omega
                | false =>
                  have hz : U xt xk = 0 := by unfold gvB at hE; have := of_decide_eq_false hE; omega
                  obtain ⟨n2, hn2⟩ : ∃ n2, n2 = nn := ⟨_, rfl⟩
                  obtain ⟨U2, hU2⟩ : ∃ U2, gvU U xt xk = U2 := ⟨_, rfl⟩
                  have HQ2 := Lib.hid (show U2 s k = n2 by rw [← hU2, gvU_zero hz, HQ.out]; exact hn2.symm)
                  subst hn2
                  have HC1 := Lib.hid (show ∀ u, Lg w tn [⟨g, mb, lo, hi, gs, U⟩] ((nb, 35, #[.int .i64 xw, .string xt, .int .i64 xk, .int .u32 (xa : Int)]) :: []) u → Calls Try.prog 14 #[.pointer (some ⟨g, 0, none⟩), .string xt, .int .i64 xk] u fun e u' => e = .returned (.bool false) ∧ Lg w tn [⟨g, mb, lo, hi, gs, U2⟩] ((nb, 35, #[.int .i64 xw, .string xt, .int .i64 xk, .int .u32 (xa : Int)]) :: []) u' from fun u hu => by have := lg_give hu xt xk HSM.out.1; rwa [hE, hU2] at this)
                  clear hE hz hU2
                  go_upto_region 23 with (go_at_call 14; (with_reducible refine (HC1.out _ HVN.out).mono ?_); rintro e u6 ⟨rfl, hv⟩; have HX := Lib.hid hv; clear hv d0 d1 d2)
                  have hle : (n2 : Int) ≤ (0 : Int) := by have h1 : U2 s k ≤ _ := HX.out.lim s k; rw [HMX2.out] at h1; have h2 := HQ2.out; omega
                  have hle2 : ¬ (0 : Int) < (n2 : Int) := by omega
                  have hle3 : ¬ 0 < n2 := by omega
                  have hle4 : decide (0 < n2) = false := decide_eq_false hle3
                  have hle5 : decide ((0 : Int) < (n2 : Int)) = false := decide_eq_false hle2
                  have hnn : decide ((n2 : Int) < 0) = false := decide_eq_false (by omega)
                  have hnn2 : ¬ (n2 : Int) < 0 := by omega
                  have hne : ((n2 : Int) != (n2 : Int)) = false := bne_self_eq_false _
                  have HC3 := Lib.hid (show ∀ u, Lg w tn [⟨g, mb, lo, hi, gs, U2⟩] ((nb, 35, #[.int .i64 xw, .string xt, .int .i64 xk, .int .u32 (xa : Int)]) :: []) u → Calls Try.prog 20 #[.pointer (some ⟨g, 0, none⟩), .string s, .int .i64 k] u fun e u' => e = .returned (.int .i64 (n2 : Int)) ∧ Lg w tn [⟨g, mb, lo, hi, gs, U2⟩] ((nb, 35, #[.int .i64 xw, .string xt, .int .i64 xk, .int .u32 (xa : Int)]) :: []) u' from fun u hu => by have := lg_used hu s k HSZ.out; rwa [HQ2.out] at this)
                  go_wp2_with (go_at_call 20; (with_reducible refine (HC3.out _ HX.out).mono ?_); rintro e u7 ⟨rfl, hv⟩; have HX7 := Lib.hid hv; clear hv)
                  go_roundw
                  case rel => exact ⟨i + 1, n2, U2, by omega, by go_num, by go_num, HQ2, Lib.hid (HX7.out.less (L' := []) (fun b hb => by cases hb))⟩
                  case measure => simp [intOf]; omega
              · have hw2 : (xw == 2) = false := by rw [beq_eq_false_iff_ne]; exact hw
                by_cases hz : xw = 3
                · have hz2 : (xw != 3) = false := by rw [bne_eq_false_iff_eq]; exact hz
                  clear hw hz
                  obtain ⟨n2, hn2⟩ : ∃ n2, n2 = nn := ⟨_, rfl⟩
                  obtain ⟨U2, hU2⟩ : ∃ U2, U = U2 := ⟨_, rfl⟩
                  have HQ2 := Lib.hid (show U2 s k = n2 by rw [← hU2, HQ.out]; exact hn2.symm)
                  have HX := HVN
                  rw [hU2] at HX
                  subst hn2
                  clear hU2
                  go_upto_region 23 with fail
                  clear d0 d1 d2
                  have hle : (n2 : Int) ≤ (0 : Int) := by have h1 : U2 s k ≤ _ := HX.out.lim s k; rw [HMX2.out] at h1; have h2 := HQ2.out; omega
                  have hle2 : ¬ (0 : Int) < (n2 : Int) := by omega
                  have hle3 : ¬ 0 < n2 := by omega
                  have hle4 : decide (0 < n2) = false := decide_eq_false hle3
                  have hle5 : decide ((0 : Int) < (n2 : Int)) = false := decide_eq_false hle2
                  have hnn : decide ((n2 : Int) < 0) = false := decide_eq_false (by omega)
                  have hnn2 : ¬ (n2 : Int) < 0 := by omega
                  have hne : ((n2 : Int) != (n2 : Int)) = false := bne_self_eq_false _
                  have HC3 := Lib.hid (show ∀ u, Lg w tn [⟨g, mb, lo, hi, gs, U2⟩] ((nb, 35, #[.int .i64 xw, .string xt, .int .i64 xk, .int .u32 (xa : Int)]) :: []) u → Calls Try.prog 20 #[.pointer (some ⟨g, 0, none⟩), .string s, .int .i64 k] u fun e u' => e = .returned (.int .i64 (n2 : Int)) ∧ Lg w tn [⟨g, mb, lo, hi, gs, U2⟩] ((nb, 35, #[.int .i64 xw, .string xt, .int .i64 xk, .int .u32 (xa : Int)]) :: []) u' from fun u hu => by have := lg_used hu s k HSZ.out; rwa [HQ2.out] at this)
                  go_wp2_with (go_at_call 20; (with_reducible refine (HC3.out _ HX.out).mono ?_); rintro e u7 ⟨rfl, hv⟩; have HX7 := Lib.hid hv; clear hv)
                  go_roundw
                  case rel => exact ⟨i + 1, n2, U2, by omega, by go_num, by go_num, HQ2, Lib.hid (HX7.out.less (L' := []) (fun b hb => by cases hb))⟩
                  case measure => simp [intOf]; omega
                · have hz2 : (xw != 3) = true := by rw [bne_iff_ne]; exact hz
                  clear hw hz
                  obtain ⟨E, hE⟩ : ∃ E, tkI (gtF tn xt) (U xt xk) xk = E := ⟨_, rfl⟩
                  by_cases h0 : E = 0
                  · have hEz : (E == 0) = true := by rw [beq_iff_eq]; exact h0
                    obtain ⟨n2, hn2⟩ : ∃ n2, n2 = nn := ⟨_, rfl⟩
                    obtain ⟨U2, hU2⟩ : ∃ U2, tkU (gtF tn xt) U xt xk = U2 := ⟨_, rfl⟩
                    have HQ2 := Lib.hid (show U2 s k = n2 by rw [← hU2, cnt_take HO.out, HQ.out]; exact hn2.symm)
                    subst hn2
                    have HC1 := Lib.hid (show ∀ u, Lg w tn [⟨g, mb, lo, hi, gs, U⟩] ((nb, 35, #[.int .i64 xw, .string xt, .int .i64 xk, .int .u32 (xa : Int)]) :: []) u → Calls Try.prog 18 #[.pointer (some ⟨g, 0, none⟩), .string xt, .int .i64 xk] u fun e u' => e = .returned (.int .i64 E) ∧ Lg w tn [⟨g, mb, lo, hi, gs, U2⟩] ((nb, 35, #[.int .i64 xw, .string xt, .int .i64 xk, .int .u32 (xa : Int)]) :: []) u' from fun u hu => by have := lg_take hu xt xk HSM.out.1; rwa [hE, hU2] at this)
                    clear hE hU2 h0
                    go_upto_region 23 with (go_at_call 18; (with_reducible refine (HC1.out _ HVN.out).mono ?_); rintro e u6 ⟨rfl, hv⟩; have HX := Lib.hid hv; clear hv d0 d1 d2)
                    have hle : (n2 : Int) ≤ (0 : Int) := by have h1 : U2 s k ≤ _ := HX.out.lim s k; rw [HMX2.out] at h1; have h2 := HQ2.out; omega
                    have hle2 : ¬ (0 : Int) < (n2 : Int) := by omega
                    have hle3 : ¬ 0 < n2 := by omega
                    have hle4 : decide (0 < n2) = false := decide_eq_false hle3
                    have hle5 : decide ((0 : Int) < (n2 : Int)) = false := decide_eq_false hle2
                    have hnn : decide ((n2 : Int) < 0) = false := decide_eq_false (by omega)
                    have hnn2 : ¬ (n2 : Int) < 0 := by omega
                    have hne : ((n2 : Int) != (n2 : Int)) = false := bne_self_eq_false _
                    have HC3 := Lib.hid (show ∀ u, Lg w tn [⟨g, mb, lo, hi, gs, U2⟩] ((nb, 35, #[.int .i64 xw, .string xt, .int .i64 xk, .int .u32 (xa : Int)]) :: []) u → Calls Try.prog 20 #[.pointer (some ⟨g, 0, none⟩), .string s, .int .i64 k] u fun e u' => e = .returned (.int .i64 (n2 : Int)) ∧ Lg w tn [⟨g, mb, lo, hi, gs, U2⟩] ((nb, 35, #[.int .i64 xw, .string xt, .int .i64 xk, .int .u32 (xa : Int)]) :: []) u' from fun u hu => by have := lg_used hu s k HSZ.out; rwa [HQ2.out] at this)
                    go_wp2_with (go_at_call 20; (with_reducible refine (HC3.out _ HX.out).mono ?_); rintro e u7 ⟨rfl, hv⟩; have HX7 := Lib.hid hv; clear hv)
                    go_roundw
                    case rel => exact ⟨i + 1, n2, U2, by omega, by go_num, by go_num, HQ2, Lib.hid (HX7.out.less (L' := []) (fun b hb => by cases hb))⟩
                    case measure => simp [intOf]; omega
                  · have hEz : (E == 0) = false := by rw [beq_eq_false_iff_ne]; exact h0
                    obtain ⟨n2, hn2⟩ : ∃ n2, n2 = nn := ⟨_, rfl⟩
                    obtain ⟨U2, hU2⟩ : ∃ U2, tkU (gtF tn xt) U xt xk = U2 := ⟨_, rfl⟩
                    have HQ2 := Lib.hid (show U2 s k = n2 by rw [← hU2, cnt_take0 (by rw [hE]; exact h0), HQ.out]; exact hn2.symm)
                    subst hn2
                    have HC1 := Lib.hid (show ∀ u, Lg w tn [⟨g, mb, lo, hi, gs, U⟩] ((nb, 35, #[.int .i64 xw, .string xt, .int .i64 xk, .int .u32 (xa : Int)]) :: []) u → Calls Try.prog 18 #[.pointer (some ⟨g, 0, none⟩), .string xt, .int .i64 xk] u fun e u' => e = .returned (.int .i64 E) ∧ Lg w tn [⟨g, mb, lo, hi, gs, U2⟩] ((nb, 35, #[.int .i64 xw, .string xt, .int .i64 xk, .int .u32 (xa : Int)]) :: []) u' from fun u hu => by have := lg_take hu xt xk HSM.out.1; rwa [hE, hU2] at this)
                    clear hE hU2 h0
                    go_upto_region 23 with (go_at_call 18; (with_reducible refine (HC1.out _ HVN.out).mono ?_); rintro e u6 ⟨rfl, hv⟩; have HX := Lib.hid hv; clear hv d0 d1 d2)
                    have hle : (n2 : Int) ≤ (0 : Int) := by have h1 : U2 s k ≤ _ := HX.out.lim s k; rw [HMX2.out] at h1; have h2 := HQ2.out; omega
                    have hle2 : ¬ (0 : Int) < (n2 : Int) := by omega
                    have hle3 : ¬ 0 < n2 := by omega
                    have hle4 : decide (0 < n2) = false := decide_eq_false hle3
                    have hle5 : decide ((0 : Int) < (n2 : Int)) = false := decide_eq_false hle2
                    have hnn : decide ((n2 : Int) < 0) = false := decide_eq_false (by omega)
                    have hnn2 : ¬ (n2 : Int) < 0 := by omega
                    have hne : ((n2 : Int) != (n2 : Int)) = false := bne_self_eq_false _
                    have HC3 := Lib.hid (show ∀ u, Lg w tn [⟨g, mb, lo, hi, gs, U2⟩] ((nb, 35, #[.int .i64 xw, .string xt, .int .i64 xk, .int .u32 (xa : Int)]) :: []) u → Calls Try.prog 20 #[.pointer (some ⟨g, 0, none⟩), .string s, .int .i64 k] u fun e u' => e = .returned (.int .i64 (n2 : Int)) ∧ Lg w tn [⟨g, mb, lo, hi, gs, U2⟩] ((nb, 35, #[.int .i64 xw, .string xt, .int .i64 xk, .int .u32 (xa : Int)]) :: []) u' from fun u hu => by have := lg_used hu s k HSZ.out; rwa [HQ2.out] at this)
                    go_wp2_with (go_at_call 20; (with_reducible refine (HC3.out _ HX.out).mono ?_); rintro e u7 ⟨rfl, hv⟩; have HX7 := Lib.hid hv; clear hv)
                    go_roundw
                    case rel => exact ⟨i + 1, n2, U2, by omega, by go_num, by go_num, HQ2, Lib.hid (HX7.out.less (L' := []) (fun b hb => by cases hb))⟩
                    case measure => simp [intOf]; omega
          · have hq2 : (xt.toList == s.toList) = false := by
              cases hh : (xt.toList == s.toList)
              · rfl
              · exact absurd (nmEq_iff.1 hh) hq
            have HO := Lib.hid (show ¬ (xt = s ∧ xk = k) from fun h => hq h.1)
            clear hq
            by_cases hw : xw = 2
            · have hw2 : (xw == 2) = true := by rw [beq_iff_eq]; exact hw
              clear hw
              cases hE : gvB U xt xk with
              | true =>
                have hpos : 0 < U xt xk := by unfold gvB at hE; simpa using hE
                obtain ⟨n2, hn2⟩ : ∃ n2, n2 = nn := ⟨_, rfl⟩
                obtain ⟨U2, hU2⟩ : ∃ U2, gvU U xt xk = U2 := ⟨_, rfl⟩
                have HQ2 := Lib.hid (show U2 s k = n2 by rw [← hU2, cnt_give HO.out, HQ.out]; exact hn2.symm)
                subst hn2
                have HC1 := Lib.hid (show ∀ u, Lg w tn [⟨g, mb, lo, hi, gs, U⟩] ((nb, 35, #[.int .i64 xw, .string xt, .int .i64 xk, .int .u32 (xa : Int)]) :: []) u → Calls Try.prog 14 #[.pointer (some ⟨g, 0, none⟩), .string xt, .int .i64 xk] u fun e u' => e = .returned (.bool true) ∧ Lg w tn [⟨g, mb, lo, hi, gs, U2⟩] ((nb, 35, #[.int .i64 xw, .string xt, .int .i64 xk, .int .u32 (xa : Int)]) :: []) u' from fun u hu => by have := lg_give hu xt xk HSM.out.1; rwa [hE, hU2] at this)
                clear hE hpos hU2
                go_upto_region 23 with (go_at_call 14; (with_reducible refine (HC1.out _ HVN.out).mono ?_); rintro e u6 ⟨rfl, hv⟩; have HX := Lib.hid hv; clear hv d0 d1 d2)
                have hle : (n2 : Int) ≤ (0 : Int) := by have h1 : U2 s k ≤ _ := HX.out.lim s k; rw [HMX2.out] at h1; have h2 := HQ2.out; omega
                have hle2 : ¬ (0 : Int) < (n2 : Int) := by omega
                have hle3 : ¬ 0 < n2 := by omega
                have hle4 : decide (0 < n2) = false := decide_eq_false hle3
                have hle5 : decide ((0 : Int) < (n2 : Int)) = false := decide_eq_false hle2
                have hnn : decide ((n2 : Int) < 0) = false := decide_eq_false (by omega)
                have hnn2 : ¬ (n2 : Int) < 0 := by omega
                have hne : ((n2 : Int) != (n2 : Int)) = false := bne_self_eq_false _
                have HC3 := Lib.hid (show ∀ u, Lg w tn [⟨g, mb, lo, hi, gs, U2⟩] ((nb, 35, #[.int .i64 xw, .string xt, .int .i64 xk, .int .u32 (xa : Int)]) :: []) u → Calls Try.prog 20 #[.pointer (some ⟨g, 0, none⟩), .string s, .int .i64 k] u fun e u' => e = .returned (.int .i64 (n2 : Int)) ∧ Lg w tn [⟨g, mb, lo, hi, gs, U2⟩] ((nb, 35, #[.int .i64 xw, .string xt, .int .i64 xk, .int .u32 (xa : Int)]) :: []) u' from fun u hu => by have := lg_used hu s k HSZ.out; rwa [HQ2.out] at this)
                go_wp2_with (go_at_call 20; (with_reducible refine (HC3.out _ HX.out).mono ?_); rintro e u7 ⟨rfl, hv⟩; have HX7 := Lib.hid hv; clear hv)
                go_roundw
                case rel => exact ⟨i + 1, n2, U2, by omega, by go_num, by go_num, HQ2, Lib.hid (HX7.out.less (L' := []) (fun b hb => by cases hb))⟩
                case measure => simp [intOf]; omega
              | false =>
                have hz : U xt xk = 0 := by unfold gvB at hE; have := of_decide_eq_false hE; omega
                obtain ⟨n2, hn2⟩ : ∃ n2, n2 = nn := ⟨_, rfl⟩
                obtain ⟨U2, hU2⟩ : ∃ U2, gvU U xt xk = U2 := ⟨_, rfl⟩
                have HQ2 := Lib.hid (show U2 s k = n2 by rw [← hU2, gvU_zero hz, HQ.out]; exact hn2.symm)
                subst hn2
                have HC1 := Lib.hid (show ∀ u, Lg w tn [⟨g, mb, lo, hi, gs, U⟩] ((nb, 35, #[.int .i64 xw, .string xt, .int .i64 xk, .int .u32 (xa : Int)]) :: []) u → Calls Try.prog 14 #[.pointer (some ⟨g, 0, none⟩), .string xt, .int .i64 xk] u fun e u' => e = .returned (.bool false) ∧ Lg w tn [⟨g, mb, lo, hi, gs, U2⟩] ((nb, 35, #[.int .i64 xw, .string xt, .int .i64 xk, .int .u32 (xa : Int)]) :: []) u' from fun u hu => by have := lg_give hu xt xk HSM.out.1; rwa [hE, hU2] at this)
                clear hE hz hU2
                go_upto_region 23 with (go_at_call 14; (with_reducible refine (HC1.out _ HVN.out).mono ?_); rintro e u6 ⟨rfl, hv⟩; have HX := Lib.hid hv; clear hv d0 d1 d2)
                have hle : (n2 : Int) ≤ (0 : Int) := by have h1 : U2 s k ≤ _ := HX.out.lim s k; rw [HMX2.out] at h1; have h2 := HQ2.out; omega
                have hle2 : ¬ (0 : Int) < (n2 : Int) := by omega
                have hle3 : ¬ 0 < n2 := by omega
                have hle4 : decide (0 < n2) = false := decide_eq_false hle3
                have hle5 : decide ((0 : Int) < (n2 : Int)) = false := decide_eq_false hle2
                have hnn : decide ((n2 : Int) < 0) = false := decide_eq_false (by omega)
                have hnn2 : ¬ (n2 : Int) < 0 := by omega
                have hne : ((n2 : Int) != (n2 : Int)) = false := bne_self_eq_false _
                have HC3 := Lib.hid (show ∀ u, Lg w tn [⟨g, mb, lo, hi, gs, U2⟩] ((nb, 35, #[.int .i64 xw, .string xt, .int .i64 xk, .int .u32 (xa : Int)]) :: []) u → Calls Try.prog 20 #[.pointer (some ⟨g, 0, none⟩), .string s, .int .i64 k] u fun e u' => e = .returned (.int .i64 (n2 : Int)) ∧ Lg w tn [⟨g, mb, lo, hi, gs, U2⟩] ((nb, 35, #[.int .i64 xw, .string xt, .int .i64 xk, .int .u32 (xa : Int)]) :: []) u' from fun u hu => by have := lg_used hu s k HSZ.out; rwa [HQ2.out] at this)
                go_wp2_with (go_at_call 20; (with_reducible refine (HC3.out _ HX.out).mono ?_); rintro e u7 ⟨rfl, hv⟩; have HX7 := Lib.hid hv; clear hv)
                go_roundw
                case rel => exact ⟨i + 1, n2, U2, by omega, by go_num, by go_num, HQ2, Lib.hid (HX7.out.less (L' := []) (fun b hb => by cases hb))⟩
                case measure => simp [intOf]; omega
            · have hw2 : (xw == 2) = false := by rw [beq_eq_false_iff_ne]; exact hw
              by_cases hz : xw = 3
              · have hz2 : (xw != 3) = false := by rw [bne_eq_false_iff_eq]; exact hz
                clear hw hz
                obtain ⟨n2, hn2⟩ : ∃ n2, n2 = nn := ⟨_, rfl⟩
                obtain ⟨U2, hU2⟩ : ∃ U2, U = U2 := ⟨_, rfl⟩
                have HQ2 := Lib.hid (show U2 s k = n2 by rw [← hU2, HQ.out]; exact hn2.symm)
                have HX := HVN
                rw [hU2] at HX
                subst hn2
                clear hU2
                go_upto_region 23 with fail
                clear d0 d1 d2
                have hle : (n2 : Int) ≤ (0 : Int) := by have h1 : U2 s k ≤ _ := HX.out.lim s k; rw [HMX2.out] at h1; have h2 := HQ2.out; omega
                have hle2 : ¬ (0 : Int) < (n2 : Int) := by omega
                have hle3 : ¬ 0 < n2 := by omega
                have hle4 : decide (0 < n2) = false := decide_eq_false hle3
                have hle5 : decide ((0 : Int) < (n2 : Int)) = false := decide_eq_false hle2
                have hnn : decide ((n2 : Int) < 0) = false := decide_eq_false (by omega)
                have hnn2 : ¬ (n2 : Int) < 0 := by omega
                have hne : ((n2 : Int) != (n2 : Int)) = false := bne_self_eq_false _
                have HC3 := Lib.hid (show ∀ u, Lg w tn [⟨g, mb, lo, hi, gs, U2⟩] ((nb, 35, #[.int .i64 xw, .string xt, .int .i64 xk, .int .u32 (xa : Int)]) :: []) u → Calls Try.prog 20 #[.pointer (some ⟨g, 0, none⟩), .string s, .int .i64 k] u fun e u' => e = .returned (.int .i64 (n2 : Int)) ∧ Lg w tn [⟨g, mb, lo, hi, gs, U2⟩] ((nb, 35, #[.int .i64 xw, .string xt, .int .i64 xk, .int .u32 (xa : Int)]) :: []) u' from fun u hu => by have := lg_used hu s k HSZ.out; rwa [HQ2.out] at this)
                go_wp2_with (go_at_call 20; (with_reducible refine (HC3.out _ HX.out).mono ?_); rintro e u7 ⟨rfl, hv⟩; have HX7 := Lib.hid hv; clear hv)
                go_roundw
                case rel => exact ⟨i + 1, n2, U2, by omega, by go_num, by go_num, HQ2, Lib.hid (HX7.out.less (L' := []) (fun b hb => by cases hb))⟩
                case measure => simp [intOf]; omega
              · have hz2 : (xw != 3) = true := by rw [bne_iff_ne]; exact hz
                clear hw hz
                obtain ⟨E, hE⟩ : ∃ E, tkI (gtF tn xt) (U xt xk) xk = E := ⟨_, rfl⟩
                by_cases h0 : E = 0
                · have hEz : (E == 0) = true := by rw [beq_iff_eq]; exact h0
                  obtain ⟨n2, hn2⟩ : ∃ n2, n2 = nn := ⟨_, rfl⟩
                  obtain ⟨U2, hU2⟩ : ∃ U2, tkU (gtF tn xt) U xt xk = U2 := ⟨_, rfl⟩
                  have HQ2 := Lib.hid (show U2 s k = n2 by rw [← hU2, cnt_take HO.out, HQ.out]; exact hn2.symm)
                  subst hn2
                  have HC1 := Lib.hid (show ∀ u, Lg w tn [⟨g, mb, lo, hi, gs, U⟩] ((nb, 35, #[.int .i64 xw, .string xt, .int .i64 xk, .int .u32 (xa : Int)]) :: []) u → Calls Try.prog 18 #[.pointer (some ⟨g, 0, none⟩), .string xt, .int .i64 xk] u fun e u' => e = .returned (.int .i64 E) ∧ Lg w tn [⟨g, mb, lo, hi, gs, U2⟩] ((nb, 35, #[.int .i64 xw, .string xt, .int .i64 xk, .int .u32 (xa : Int)]) :: []) u' from fun u hu => by have := lg_take hu xt xk HSM.out.1; rwa [hE, hU2] at this)
                  clear hE hU2 h0
                  go_upto_region 23 with (go_at_call 18; (with_reducible refine (HC1.out _ HVN.out).mono ?_); rintro e u6 ⟨rfl, hv⟩; have HX := Lib.hid hv; clear hv d0 d1 d2)
                  have hle : (n2 : Int) ≤ (0 : Int) := by have h1 : U2 s k ≤ _ := HX.out.lim s k; rw [HMX2.out] at h1; have h2 := HQ2.out; omega
                  have hle2 : ¬ (0 : Int) < (n2 : Int) := by omega
                  have hle3 : ¬ 0 < n2 := by omega
                  have hle4 : decide (0 < n2) = false := decide_eq_false hle3
                  have hle5 : decide ((0 : Int) < (n2 : Int)) = false := decide_eq_false hle2
                  have hnn : decide ((n2 : Int) < 0) = false := decide_eq_false (by omega)
                  have hnn2 : ¬ (n2 : Int) < 0 := by omega
                  have hne : ((n2 : Int) != (n2 : Int)) = false := bne_self_eq_false _
                  have HC3 := Lib.hid (show ∀ u, Lg w tn [⟨g, mb, lo, hi, gs, U2⟩] ((nb, 35, #[.int .i64 xw, .string xt, .int .i64 xk, .int .u32 (xa : Int)]) :: []) u → Calls Try.prog 20 #[.pointer (some ⟨g, 0, none⟩), .string s, .int .i64 k] u fun e u' => e = .returned (.int .i64 (n2 : Int)) ∧ Lg w tn [⟨g, mb, lo, hi, gs, U2⟩] ((nb, 35, #[.int .i64 xw, .string xt, .int .i64 xk, .int .u32 (xa : Int)]) :: []) u' from fun u hu => by have := lg_used hu s k HSZ.out; rwa [HQ2.out] at this)
                  go_wp2_with (go_at_call 20; (with_reducible refine (HC3.out _ HX.out).mono ?_); rintro e u7 ⟨rfl, hv⟩; have HX7 := Lib.hid hv; clear hv)
                  go_roundw
                  case rel => exact ⟨i + 1, n2, U2, by omega, by go_num, by go_num, HQ2, Lib.hid (HX7.out.less (L' := []) (fun b hb => by cases hb))⟩
                  case measure => simp [intOf]; omega
                · have hEz : (E == 0) = false := by rw [beq_eq_false_iff_ne]; exact h0
                  obtain ⟨n2, hn2⟩ : ∃ n2, n2 = nn := ⟨_, rfl⟩
                  obtain ⟨U2, hU2⟩ : ∃ U2, tkU (gtF tn xt) U xt xk = U2 := ⟨_, rfl⟩
                  have HQ2 := Lib.hid (show U2 s k = n2 by rw [← hU2, cnt_take0 (by rw [hE]; exact h0), HQ.out]; exact hn2.symm)
                  subst hn2
                  have HC1 := Lib.hid (show ∀ u, Lg w tn [⟨g, mb, lo, hi, gs, U⟩] ((nb, 35, #[.int .i64 xw, .string xt, .int .i64 xk, .int .u32 (xa : Int)]) :: []) u → Calls Try.prog 18 #[.pointer (some ⟨g, 0, none⟩), .string xt, .int .i64 xk] u fun e u' => e = .returned (.int .i64 E) ∧ Lg w tn [⟨g, mb, lo, hi, gs, U2⟩] ((nb, 35, #[.int .i64 xw, .string xt, .int .i64 xk, .int .u32 (xa : Int)]) :: []) u' from fun u hu => by have := lg_take hu xt xk HSM.out.1; rwa [hE, hU2] at this)
                  clear hE hU2 h0
                  go_upto_region 23 with (go_at_call 18; (with_reducible refine (HC1.out _ HVN.out).mono ?_); rintro e u6 ⟨rfl, hv⟩; have HX := Lib.hid hv; clear hv d0 d1 d2)
                  have hle : (n2 : Int) ≤ (0 : Int) := by have h1 : U2 s k ≤ _ := HX.out.lim s k; rw [HMX2.out] at h1; have h2 := HQ2.out; omega
                  have hle2 : ¬ (0 : Int) < (n2 : Int) := by omega
                  have hle3 : ¬ 0 < n2 := by omega
                  have hle4 : decide (0 < n2) = false := decide_eq_false hle3
                  have hle5 : decide ((0 : Int) < (n2 : Int)) = false := decide_eq_false hle2
                  have hnn : decide ((n2 : Int) < 0) = false := decide_eq_false (by omega)
                  have hnn2 : ¬ (n2 : Int) < 0 := by omega
                  have hne : ((n2 : Int) != (n2 : Int)) = false := bne_self_eq_false _
                  have HC3 := Lib.hid (show ∀ u, Lg w tn [⟨g, mb, lo, hi, gs, U2⟩] ((nb, 35, #[.int .i64 xw, .string xt, .int .i64 xk, .int .u32 (xa : Int)]) :: []) u → Calls Try.prog 20 #[.pointer (some ⟨g, 0, none⟩), .string s, .int .i64 k] u fun e u' => e = .returned (.int .i64 (n2 : Int)) ∧ Lg w tn [⟨g, mb, lo, hi, gs, U2⟩] ((nb, 35, #[.int .i64 xw, .string xt, .int .i64 xk, .int .u32 (xa : Int)]) :: []) u' from fun u hu => by have := lg_used hu s k HSZ.out; rwa [HQ2.out] at this)
                  go_wp2_with (go_at_call 20; (with_reducible refine (HC3.out _ HX.out).mono ?_); rintro e u7 ⟨rfl, hv⟩; have HX7 := Lib.hid hv; clear hv)
                  go_roundw
                  case rel => exact ⟨i + 1, n2, U2, by omega, by go_num, by go_num, HQ2, Lib.hid (HX7.out.less (L' := []) (fun b hb => by cases hb))⟩
                  case measure => simp [intOf]; omega
        · have hi2 : ¬ (i : Int) < (nl : Int) := by omega
          go_wp2
          go_ret
          exact ⟨by first | rfl | simp, HV.out.l⟩
    · have hm2 : decide ((1000 : Int) < (s.size : Int)) = true := decide_eq_true (by omega)
      go_wp2_with (first
        | (go_at_call 10; (with_reducible refine (HGR.out _ HV2.out.l).mono ?_); rintro e u3 ⟨gr, rfl, _, hb⟩; have HV3 := Lib.hid (HV2.out.on hb); clear hb; clear e0 e1 e2 e3 e4; have e0 : u3.cell? ⟨g0, 0, none⟩ = some (.int .i64 a0) := HV3.out.head.cell 0; have e1 : u3.cell? ⟨g0, 1, none⟩ = some (.int .i64 a1) := HV3.out.head.cell 1; have e2 : u3.cell? ⟨g0, 2, none⟩ = some (.int .i64 a2) := HV3.out.head.cell 2; have e3 : u3.cell? ⟨g0, 3, none⟩ = some (.int .i64 a3) := HV3.out.head.cell 3; have e4 : u3.cell? ⟨g0, 4, none⟩ = some (.slice A n c) := HV3.out.head.cell 4; cases gr)
        | (go_at_call 11; (with_reducible refine (HGO.out _ HV3.out.l).mono ?_); rintro e u4 ⟨gr2, rfl, hob, hb⟩; have HV4 := Lib.hid (HV3.out.on hb); have HOB := Lib.hid hob; clear hb hob; clear e0 e1 e2 e3 e4; have e0 : u4.cell? ⟨g0, 0, none⟩ = some (.int .i64 a0) := HV4.out.head.cell 0; have e1 : u4.cell? ⟨g0, 1, none⟩ = some (.int .i64 a1) := HV4.out.head.cell 1; have e2 : u4.cell? ⟨g0, 2, none⟩ = some (.int .i64 a2) := HV4.out.head.cell 2; have e3 : u4.cell? ⟨g0, 3, none⟩ = some (.int .i64 a3) := HV4.out.head.cell 3; have e4 : u4.cell? ⟨g0, 4, none⟩ = some (.slice A n c) := HV4.out.head.cell 4; cases gr2))
      all_goals go_ret
      all_goals first | exact ⟨rfl, HV3.out.l⟩ | exact ⟨rfl, HV4.out.l⟩

theorem walk_GateCounts (x : Cv) (B : Option Addr) (lo0 : List Go4) (d : Nat) (s : ByteArray) (k : Int) (w : World) (h : InCf w x) (ho : InG w B lo0 d) (hs : s.size ≤ 140737488355328) (hk : (Lit.int .i64 k).wf = true) :
    Calls Try.prog 4 #[.agg (ccs x), .slice B lo0.length d, .string s, .int .i64 k] w fun e w' => e = .returned (.bool true) ∧ Below w.heap.size w w' := by
  by_cases h1 : k = 1
  · subst h1; exact cnt_1 x B lo0 d s w h ho hs
  · by_cases h2 : k = 2
    · subst h2; exact cnt_2 x B lo0 d s w h ho hs
    · exact cnt_k x B lo0 d s k w h ho hs h1 h2
end Go.Proofs.Ytcplebbaiambgaa
