/- GateApart: the walk. (Written by gen_gtapart.py.) -/
import Derived.Test.YtcplebbaiambgaaG9
import Derived.Test.YtcplebbaiambgaaG13
import Derived.Test.YtcplebbaiambgaaG1
import Derived.BigQuiet
import Derived.Deep.QuietTactic
import Derived.BigRegion
import Derived.Deep.RegionHeld3
namespace Go.Proofs.Ytcplebbaiambgaa
set_option linter.unusedVariables false
set_option maxRecDepth 100000
set_option linter.unusedSimpArgs false
open Go.RowKit

theorem gen_qX {Q : Exit → Act → World → Prop} {e : Exit} {a : Act} {w : World} (S : World → Prop) (hS : S w) (h : ∀ u, S u → Q e a u) : Q e a w := h w hS
theorem give_same {U V : Us} {s : ByteArray} (h : ∀ j, V s j = U s j) (k : Int) : gvB V s k = gvB U s k ∧ ∀ j, gvU V s k s j = gvU U s k s j := by
  refine ⟨by unfold gvB; rw [h], fun j => ?_⟩
  unfold gvU stU
  split
  · rw [h]
  · exact h j
theorem take_same {U V : Us} {s : ByteArray} {o : Option Tn} (h : ∀ j, V s j = U s j) (k : Int) : tkI o (V s k) k = tkI o (U s k) k ∧ ∀ j, tkU o V s k s j = tkU o U s k s j := by
  refine ⟨by rw [h], fun j => ?_⟩
  unfold tkU
  rw [h]
  split
  · unfold stU
    split
    · rfl
    · exact h j
  · exact h j
theorem give_far {U : Us} {s t : ByteArray} (h : s ≠ t) (k : Int) : ∀ j, gvU U t k s j = U s j := fun j => stU_name h
theorem take_far {U : Us} {s t : ByteArray} {o : Option Tn} (h : s ≠ t) (k : Int) : ∀ j, tkU o U t k s j = U s j := fun j => by
  unfold tkU
  split
  · exact stU_name h
  · rfl

set_option maxRecDepth 100000 in
set_option maxHeartbeats 16000000 in
theorem walk_GateApart (x : Cv) (B : Option Addr) (lo0 : List Go4) (d : Nat) (s : ByteArray) (w : World) (h : InCf w x) (ho : InG w B lo0 d) (hs : s.size ≤ 140737488355328) :
    Calls Try.prog 5 #[.agg (ccs x), .slice B lo0.length d, .string s] w fun e w' => e = .returned (.bool true) ∧ Below w.heap.size w w' := by
  have HGR := Lib.hid (fun u (hu : Below w.heap.size w u) => great_ok x u (h.onG hu))
  have HN0 := Lib.hid (fun (hc : cfgB x.cg = false) => gnew_no h.rc hc)
  have HN1 := Lib.hid (fun (hc : cfgB x.cg = true) => gnew_yes h.rc hc)
  have HRT := Lib.hid h.rc.r
  have HMX := Lib.hid h.rc.f.max
  have HCP := Lib.hid h.rc.f.cap
  have HTE := Lib.hid (fun (hc : cfgB x.cg = true) => (cfgB_parts hc).2.2.2.2.2.2)
  have HTN := Lib.hid (show ∀ s, (fT s x.ts).map (·.t) = gtF x.cg.tens s from fun s => gtF_tens s x.ts)
  have HGO := Lib.hid (fun u (hu : Below w.heap.size w u) => ggreat_ok B lo0 d u (ho.on hu))
  have HOP := Lib.hid ho
  obtain ⟨C, hC⟩ : ∃ C, cfgB x.cg = C := ⟨_, rfl⟩
  simp only [hC] at HN0 HN1 HTE
  obtain ⟨tn, htn⟩ : ∃ tn, x.cg.tens = tn := ⟨_, rfl⟩
  rw [htn] at HN1 HTE HTN
  obtain ⟨a0, a1, a2, a3, ts, A, c⟩ := x
  obtain ⟨n, hn⟩ : ∃ n, ts.length = n := ⟨_, rfl⟩
  have HN := Lib.hid hn
  dsimp only at HRT HMX HCP HTN
  simp only [ccs, hn] at HGR HN0 HN1 ⊢
  have HX := Lib.hid (show Bx w w.heap.size 24 #[.int .i64 a0, .int .i64 a1, .int .i64 a2, .int .i64 a3, .slice A n c] (w.alloc (.cells #[.int .i64 a0, .int .i64 a1, .int .i64 a2, .int .i64 a3, .slice A n c] 24)) from Bx.new w _ _)
  clear h hn hC htn
  obtain ⟨nl, hnl⟩ : ∃ k, lo0.length = k := ⟨_, rfl⟩
  have HNL := Lib.hid hnl
  have hnl47 : nl ≤ 140737488355328 := by rw [← hnl]; exact ho.n
  rw [hnl] at HGO ⊢
  clear hnl ho
  go_enter Try.func5, Try.ntmps5
  go_upto_region 2 with (go_at_call 9; refine (ghead_ok _).mono ?_; rintro e u1 ⟨rfl, hb⟩; have HX1 := Lib.hid (HX.out.on hb); clear hb)
  obtain ⟨g0, hg0⟩ : ∃ g, w.heap.size = g := ⟨_, rfl⟩
  have HG0 := Lib.hid hg0
  rw [hg0] at HX1 ⊢
  clear hg0
  have e0 : u1.cell? ⟨g0, 0, none⟩ = some (.int .i64 a0) := HX1.out.b.cell 0
  have e1 : u1.cell? ⟨g0, 1, none⟩ = some (.int .i64 a1) := HX1.out.b.cell 1
  have e2 : u1.cell? ⟨g0, 2, none⟩ = some (.int .i64 a2) := HX1.out.b.cell 2
  have e3 : u1.cell? ⟨g0, 3, none⟩ = some (.int .i64 a3) := HX1.out.b.cell 3
  have e4 : u1.cell? ⟨g0, 4, none⟩ = some (.slice A n c) := HX1.out.b.cell 4
  cases C with
  | false =>
    go_wp2_with (first
      | (go_at_call 12; (with_reducible refine (HN0.out (by first | rfl | trivial) _ HX1.out.l).mono ?_); rintro e u2 ⟨rfl, hb⟩; have HX2 := Lib.hid (HX1.out.on hb); clear e0 e1 e2 e3 e4; have e0 : u2.cell? ⟨g0, 0, none⟩ = some (.int .i64 a0) := HX2.out.b.cell 0; have e1 : u2.cell? ⟨g0, 1, none⟩ = some (.int .i64 a1) := HX2.out.b.cell 1; have e2 : u2.cell? ⟨g0, 2, none⟩ = some (.int .i64 a2) := HX2.out.b.cell 2; have e3 : u2.cell? ⟨g0, 3, none⟩ = some (.int .i64 a3) := HX2.out.b.cell 3; have e4 : u2.cell? ⟨g0, 4, none⟩ = some (.slice A n c) := HX2.out.b.cell 4; clear hb)
      | (go_at_call 12; (with_reducible refine (HN0.out (by first | rfl | trivial) _ HX2.out.l).mono ?_); rintro e u3 ⟨rfl, hb⟩; have HX3 := Lib.hid (HX2.out.on hb); clear hb))
    go_ret
    exact ⟨rfl, HX3.out.l⟩
  | true =>
    have HL0 := Lib.hid (show Lg w tn [] [(g0, 24, #[.int .i64 a0, .int .i64 a1, .int .i64 a2, .int .i64 a3, .slice A n c])] u1 from ⟨(fun G hG => by cases hG), .nil, (fun b hb => by obtain rfl := List.mem_singleton.1 hb; exact ⟨HX1.out.b, gcfg_ne⟩), HX1.out.l⟩)
    go_upto_region 3 with (go_at_call 12; (with_reducible refine (HN1.out (by first | rfl | trivial) _ _ _ HL0.out).mono ?_); rintro e u2 ⟨g, mb, lo, hi, gs, rfl, hv⟩; have HV2 := Lib.hid hv; clear hv)
    clear e0 e1 e2 e3 e4
    have e0 : u2.cell? ⟨g0, 0, none⟩ = some (.int .i64 a0) := HV2.out.head.cell 0
    have e1 : u2.cell? ⟨g0, 1, none⟩ = some (.int .i64 a1) := HV2.out.head.cell 1
    have e2 : u2.cell? ⟨g0, 2, none⟩ = some (.int .i64 a2) := HV2.out.head.cell 2
    have e3 : u2.cell? ⟨g0, 3, none⟩ = some (.int .i64 a3) := HV2.out.head.cell 3
    have e4 : u2.cell? ⟨g0, 4, none⟩ = some (.slice A n c) := HV2.out.head.cell 4
    go_upto_region 4 with (go_at_call 12; (with_reducible refine (HN1.out (by first | rfl | trivial) _ _ _ HV2.out).mono ?_); rintro e u3 ⟨g', mb', lo', hi', gs', rfl, hv⟩; have HV3 := Lib.hid hv; clear hv)
    clear e0 e1 e2 e3 e4
    have e0 : u3.cell? ⟨g0, 0, none⟩ = some (.int .i64 a0) := HV3.out.head.cell 0
    have e1 : u3.cell? ⟨g0, 1, none⟩ = some (.int .i64 a1) := HV3.out.head.cell 1
    have e2 : u3.cell? ⟨g0, 2, none⟩ = some (.int .i64 a2) := HV3.out.head.cell 2
    have e3 : u3.cell? ⟨g0, 3, none⟩ = some (.int .i64 a3) := HV3.out.head.cell 3
    have e4 : u3.cell? ⟨g0, 4, none⟩ = some (.slice A n c) := HV3.out.head.cell 4
    by_cases hm1 : s.size ≤ 1000
    · have hm2 : decide ((1000 : Int) < (s.size : Int)) = false := decide_eq_false (by omega)
      have hm3 : ¬ (1000 : Int) < (s.size : Int) := by omega
      go_upto_region 6 with (first
        | (go_at_call 10; (with_reducible refine (HGR.out _ HV3.out.l).mono ?_); rintro e u4 ⟨gr, rfl, _, hb⟩; have HV4 := Lib.hid (HV3.out.on hb); clear hb e0 e1 e2 e3 e4; cases gr)
        | (go_at_call 11; (with_reducible refine (HGO.out _ HV4.out.l).mono ?_); rintro e u5 ⟨gr2, rfl, hob, hb⟩; have HV5 := Lib.hid (HV4.out.on hb); have HOB := Lib.hid hob; clear hb hob; cases gr2))
      any_goals (go_ret; first | exact ⟨rfl, HV4.out.l⟩ | exact ⟨rfl, HV5.out.l⟩)
      have hnb : nl ≤ 200 := by have := HOB.out (by first | rfl | trivial); rw [HNL.out] at this; exact this
      have HSZ := Lib.hid hs
      clear HOB HN0 HN1 HTE HTN HGR HGO
      obtain ⟨wb, hwb⟩ : ∃ wb, u5 = wb := ⟨_, rfl⟩
      rw [hwb] at HV5 ⊢
      clear hwb
      go_wp2_with fail
      go_loopw [10] (fun v10 wr => ∃ (i : Nat) (U V : Us), i ≤ nl ∧ v10 = .int .i64 (i : Int) ∧ Hid (∀ j, V s j = U s j) ∧ Hid (Lg w tn [⟨g', mb', lo', hi', gs', V⟩, ⟨g, mb, lo, hi, gs, U⟩] [(g0, 24, #[.int .i64 a0, .int .i64 a1, .int .i64 a2, .int .i64 a3, .slice A n c])] wr)) (fun v10 _ => nl - (intOf v10).toNat)
      case atStart => exact ⟨0, U0, U0, by omega, rfl, Lib.hid (fun _ => rfl), HV5⟩
      case round =>
        obtain ⟨i, U, V, hi0, rfl, HUV, HV⟩ := hrel
        by_cases hi1 : i < nl
        · have hi2 : (i : Int) < (nl : Int) := by omega
          obtain ⟨b, o, x, rfl, hx, hsm, hc⟩ := HOP.out.at4 i (by rw [HNL.out]; exact hi1)
          obtain ⟨c0, c1, c2, c3⟩ := hc wr HV.out.l
          obtain ⟨xw, xt, xk, xa⟩ := x
          dsimp only at c0 c1 c2 c3
          have HSM := Lib.hid hsm
          clear hc hx hsm
          go_upto_region 10 with fail
          clear c0 c1 c2 c3
          have HVN := Lib.hid (HV.out.new 35 #[.int .i64 xw, .string xt, .int .i64 xk, .int .u32 (xa : Int)] (by decide))
          obtain ⟨v0, hv0⟩ : ∃ v, wr.alloc (.cells #[.int .i64 xw, .string xt, .int .i64 xk, .int .u32 (xa : Int)] 35) = v := ⟨_, rfl⟩
          obtain ⟨nb, hnb2⟩ : ∃ nb, wr.heap.size = nb := ⟨_, rfl⟩
          rw [hv0] at HVN ⊢
          rw [hnb2] at HVN ⊢
          clear hv0 hnb2
          have d0 : v0.cell? ⟨nb, 0, none⟩ = some (.int .i64 xw) := HVN.out.head.cell 0
          have d1 : v0.cell? ⟨nb, 1, none⟩ = some (.string xt) := HVN.out.head.cell 1
          have d2 : v0.cell? ⟨nb, 2, none⟩ = some (.int .i64 xk) := HVN.out.head.cell 2
          by_cases hq : xt = s
          · have hq2 : (xt.toList == s.toList) = true := by rw [hq]; exact beq_self_eq_true _
            have HXS := Lib.hid hq
            clear hq
            by_cases hw : xw = 2
            · have hw2 : (xw == 2) = true := by rw [beq_iff_eq]; exact hw
              clear hw
              have HSA := Lib.hid (show gvB V xt xk = gvB U xt xk ∧ ∀ j, (gvU V xt xk) s j = (gvU U xt xk) s j by rw [HXS.out]; exact give_same HUV.out xk)
              obtain ⟨E, hE⟩ : ∃ E, gvB U xt xk = E := ⟨_, rfl⟩
              have HEV := Lib.hid (HSA.out.1.trans hE)
              have HEU := Lib.hid hE
              clear hE
              have hEE : (E != E) = false := bne_self_eq_false E
              obtain ⟨U2, hU2⟩ : ∃ U2, gvU U xt xk = U2 := ⟨_, rfl⟩
              obtain ⟨V2, hV2⟩ : ∃ V2, gvU V xt xk = V2 := ⟨_, rfl⟩
              have HE := Lib.hid (show ∀ j, V2 s j = U2 s j by rw [← hU2, ← hV2]; exact HSA.out.2)
              have HU2 := Lib.hid hU2
              have HV2' := Lib.hid hV2
              clear hU2 hV2
              have HC1 := Lib.hid (show ∀ u, Lg w tn [⟨g', mb', lo', hi', gs', V⟩, ⟨g, mb, lo, hi, gs, U⟩] ((nb, 35, #[.int .i64 xw, .string xt, .int .i64 xk, .int .u32 (xa : Int)]) :: [(g0, 24, #[.int .i64 a0, .int .i64 a1, .int .i64 a2, .int .i64 a3, .slice A n c])]) u → Calls Try.prog 14 #[.pointer (some ⟨g, 0, none⟩), .string xt, .int .i64 xk] u fun e u' => e = .returned (.bool E) ∧ Lg w tn [⟨g', mb', lo', hi', gs', V⟩, ⟨g, mb, lo, hi, gs, U2⟩] ((nb, 35, #[.int .i64 xw, .string xt, .int .i64 xk, .int .u32 (xa : Int)]) :: [(g0, 24, #[.int .i64 a0, .int .i64 a1, .int .i64 a2, .int .i64 a3, .slice A n c])]) u' from fun u hu => by have := lg_give2 hu xt xk HSM.out.1; rwa [HEU.out, HU2.out] at this)
              have HC2 := Lib.hid (show ∀ u, Lg w tn [⟨g', mb', lo', hi', gs', V⟩, ⟨g, mb, lo, hi, gs, U2⟩] ((nb, 35, #[.int .i64 xw, .string xt, .int .i64 xk, .int .u32 (xa : Int)]) :: [(g0, 24, #[.int .i64 a0, .int .i64 a1, .int .i64 a2, .int .i64 a3, .slice A n c])]) u → Calls Try.prog 14 #[.pointer (some ⟨g', 0, none⟩), .string xt, .int .i64 xk] u fun e u' => e = .returned (.bool E) ∧ Lg w tn [⟨g', mb', lo', hi', gs', V2⟩, ⟨g, mb, lo, hi, gs, U2⟩] ((nb, 35, #[.int .i64 xw, .string xt, .int .i64 xk, .int .u32 (xa : Int)]) :: [(g0, 24, #[.int .i64 a0, .int .i64 a1, .int .i64 a2, .int .i64 a3, .slice A n c])]) u' from fun u hu => by have := lg_give hu xt xk HSM.out.1; rwa [HEV.out, HV2'.out] at this)
              go_upto_region 19 with (first
                | (go_at_call 14; (with_reducible refine (HC1.out _ HVN.out).mono ?_); rintro e u6 ⟨rfl, hv⟩; have HV6 := Lib.hid hv; clear hv; clear d0 d1 d2; have d1 : u6.cell? ⟨nb, 1, none⟩ = some (.string xt) := HV6.out.head.cell 1; have d2 : u6.cell? ⟨nb, 2, none⟩ = some (.int .i64 xk) := HV6.out.head.cell 2)
                | (go_at_call 14; (with_reducible refine (HC2.out _ HV6.out).mono ?_); rintro e u7 ⟨rfl, hv⟩; have HX := Lib.hid hv; clear hv d1 d2))
              obtain ⟨n1, h1⟩ : ∃ n1, U2 s 1 = n1 := ⟨_, rfl⟩
              obtain ⟨n2, h2⟩ : ∃ n2, U2 s 2 = n2 := ⟨_, rfl⟩
              have HEU1 := Lib.hid h1
              have HEU2 := Lib.hid h2
              have HEV1 := Lib.hid ((HE.out 1).trans h1)
              have HEV2 := Lib.hid ((HE.out 2).trans h2)
              obtain ⟨e3, h3⟩ : ∃ e3, adI (gtF tn s) xa = e3 := ⟨_, rfl⟩
              have HEA := Lib.hid h3
              clear h1 h2 h3
              have hn1 : ((n1 : Int) != (n1 : Int)) = false := bne_self_eq_false _
              have hn2 : ((n2 : Int) != (n2 : Int)) = false := bne_self_eq_false _
              have hn3 : (e3 != e3) = false := bne_self_eq_false _
              go_upto_region 19 with fail
              try simp only [List.cons_append, List.nil_append]
              refine wp_region_held_drew (S := fun wz => Bk wz nb 35 #[.int .i64 xw, .string xt, .int .i64 xk, .int .u32 (xa : Int)]) (by kernel_rfl) (HX.out.head.drew) (fun hHeld => ?_)
              refine take_at (some 94) (i := 0) (v := ?_) rfl rfl (by kernel_rfl) (by kernel_rfl) (by kernel_rfl) (fun _ _ _ h => h) (Or.inl ⟨by kernel_rfl, ?_⟩) hHeld ?_
              rotate_left
              · intro wz hSw; have m3 : wz.cell? ⟨nb, 3, none⟩ = some (.int .u32 (xa : Int)) := hSw.cell 3; go_simp; try (with_reducible rfl)
              try simp only [Act.put, List.setIfInBounds_toArray, List.set_cons_zero, List.set_cons_succ, List.getElem_toArray, List.getElem_cons_succ, List.getElem_cons_zero]
              refine take_at (some 95) (i := 1) (v := ?_) rfl rfl (by kernel_rfl) (by kernel_rfl) (by kernel_rfl) (fun _ _ _ h => h) (Or.inl ⟨by kernel_rfl, ?_⟩) hHeld ?_
              rotate_left
              · intro wz hSw; have m3 : wz.cell? ⟨nb, 3, none⟩ = some (.int .u32 (xa : Int)) := hSw.cell 3; go_simp; try (with_reducible rfl)
              try simp only [Act.put, List.setIfInBounds_toArray, List.set_cons_zero, List.set_cons_succ, List.getElem_toArray, List.getElem_cons_succ, List.getElem_cons_zero]
              refine take_at (some 97) (i := 3) (v := ?_) rfl rfl (by kernel_rfl) (by kernel_rfl) (by kernel_rfl) (fun _ _ _ h => h) (Or.inl ⟨by kernel_rfl, ?_⟩) hHeld ?_
              rotate_left
              · intro wz hSw; have m3 : wz.cell? ⟨nb, 3, none⟩ = some (.int .u32 (xa : Int)) := hSw.cell 3; go_simp; try (with_reducible rfl)
              try simp only [Act.put, List.setIfInBounds_toArray, List.set_cons_zero, List.set_cons_succ, List.getElem_toArray, List.getElem_cons_succ, List.getElem_cons_zero]
              refine take_at (some 98) (i := 4) (v := ?_) rfl rfl (by kernel_rfl) (by kernel_rfl) (by kernel_rfl) (fun _ _ _ h => h) (Or.inl ⟨by kernel_rfl, ?_⟩) hHeld ?_
              rotate_left
              · intro wz hSw; have m3 : wz.cell? ⟨nb, 3, none⟩ = some (.int .u32 (xa : Int)) := hSw.cell 3; go_simp; try (with_reducible rfl)
              try simp only [Act.put, List.setIfInBounds_toArray, List.set_cons_zero, List.set_cons_succ, List.getElem_toArray, List.getElem_cons_succ, List.getElem_cons_zero]
              have HXD := Lib.hid (HX.out.on (Below.refl _ _).drew)
              refine wpAnyH_ready (rs := [2]) (by kernel_rfl) (by simp) (AllReadyH.cons rfl (fun K hK => ?_) AllReadyH.nil)
              rw [if_pos (by kernel_rfl)]
              go_simp
              refine (lg_used2 HXD.out s 1 HSZ.out).mono ?_
              rintro e y1 ⟨rfl, hy1⟩
              try rw [HEU1.out]
              try dsimp only
              refine hK.out _ _ (hy1.head) (fun hHeld => ?_)
              try simp only [Act.put, List.setIfInBounds_toArray, List.set_cons_zero, List.set_cons_succ, List.getElem_toArray, List.getElem_cons_succ, List.getElem_cons_zero]
              refine wpAnyH_ready (rs := [5]) (by kernel_rfl) (by simp) (AllReadyH.cons rfl (fun K hK => ?_) AllReadyH.nil)
              rw [if_pos (by kernel_rfl)]
              go_simp
              refine (lg_used hy1 s 1 HSZ.out).mono ?_
              rintro e y2 ⟨rfl, hy2⟩
              try rw [HEV1.out]
              try dsimp only
              refine hK.out _ _ (hy2.head) (fun hHeld => ?_)
              try simp only [Act.put, List.setIfInBounds_toArray, List.set_cons_zero, List.set_cons_succ, List.getElem_toArray, List.getElem_cons_succ, List.getElem_cons_zero]
              refine take_at (some 100) (i := 6) (v := ?_) rfl rfl (by kernel_rfl) (by kernel_rfl) (by kernel_rfl) (fun _ _ _ h => h) (Or.inl ⟨by kernel_rfl, ?_⟩) hHeld ?_
              rotate_left
              · intro wz hSw; have m3 : wz.cell? ⟨nb, 3, none⟩ = some (.int .u32 (xa : Int)) := hSw.cell 3; go_simp; try (with_reducible rfl)
              try simp only [Act.put, List.setIfInBounds_toArray, List.set_cons_zero, List.set_cons_succ, List.getElem_toArray, List.getElem_cons_succ, List.getElem_cons_zero]
              refine take_at (some 101) (i := 7) (v := ?_) rfl rfl (by kernel_rfl) (by kernel_rfl) (by kernel_rfl) (fun _ _ _ h => h) (Or.inl ⟨by kernel_rfl, ?_⟩) hHeld ?_
              rotate_left
              · intro wz hSw; have m3 : wz.cell? ⟨nb, 3, none⟩ = some (.int .u32 (xa : Int)) := hSw.cell 3; go_simp; try (with_reducible rfl)
              try simp only [Act.put, List.setIfInBounds_toArray, List.set_cons_zero, List.set_cons_succ, List.getElem_toArray, List.getElem_cons_succ, List.getElem_cons_zero]
              refine take_at (some 102) (i := 8) (v := ?_) rfl rfl (by kernel_rfl) (by kernel_rfl) (by kernel_rfl) (fun _ _ _ h => h) (Or.inl ⟨by kernel_rfl, ?_⟩) hHeld ?_
              rotate_left
              · intro wz hSw; have m3 : wz.cell? ⟨nb, 3, none⟩ = some (.int .u32 (xa : Int)) := hSw.cell 3; go_simp; try (with_reducible rfl)
              try simp only [Act.put, List.setIfInBounds_toArray, List.set_cons_zero, List.set_cons_succ, List.getElem_toArray, List.getElem_cons_succ, List.getElem_cons_zero]
              refine take_at (some 103) (i := 9) (v := ?_) rfl rfl (by kernel_rfl) (by kernel_rfl) (by kernel_rfl) (fun _ _ _ h => h) (Or.inl ⟨by kernel_rfl, ?_⟩) hHeld ?_
              rotate_left
              · intro wz hSw; have m3 : wz.cell? ⟨nb, 3, none⟩ = some (.int .u32 (xa : Int)) := hSw.cell 3; go_simp; try (with_reducible rfl)
              try simp only [Act.put, List.setIfInBounds_toArray, List.set_cons_zero, List.set_cons_succ, List.getElem_toArray, List.getElem_cons_succ, List.getElem_cons_zero]
              refine take_at (some 105) (i := 11) (v := ?_) rfl rfl (by kernel_rfl) (by kernel_rfl) (by kernel_rfl) (fun _ _ _ h => h) (Or.inl ⟨by kernel_rfl, ?_⟩) hHeld ?_
              rotate_left
              · intro wz hSw; have m3 : wz.cell? ⟨nb, 3, none⟩ = some (.int .u32 (xa : Int)) := hSw.cell 3; go_simp; try (with_reducible rfl)
              try simp only [Act.put, List.setIfInBounds_toArray, List.set_cons_zero, List.set_cons_succ, List.getElem_toArray, List.getElem_cons_succ, List.getElem_cons_zero]
              refine take_at (some 106) (i := 12) (v := ?_) rfl rfl (by kernel_rfl) (by kernel_rfl) (by kernel_rfl) (fun _ _ _ h => h) (Or.inl ⟨by kernel_rfl, ?_⟩) hHeld ?_
              rotate_left
              · intro wz hSw; have m3 : wz.cell? ⟨nb, 3, none⟩ = some (.int .u32 (xa : Int)) := hSw.cell 3; go_simp; try (with_reducible rfl)
              try simp only [Act.put, List.setIfInBounds_toArray, List.set_cons_zero, List.set_cons_succ, List.getElem_toArray, List.getElem_cons_succ, List.getElem_cons_zero]
              refine wpAnyH_ready (rs := [10]) (by kernel_rfl) (by simp) (AllReadyH.cons rfl (fun K hK => ?_) AllReadyH.nil)
              rw [if_pos (by kernel_rfl)]
              go_simp
              refine (lg_used2 hy2 s 2 HSZ.out).mono ?_
              rintro e y3 ⟨rfl, hy3⟩
              try rw [HEU2.out]
              try dsimp only
              refine hK.out _ _ (hy3.head) (fun hHeld => ?_)
              try simp only [Act.put, List.setIfInBounds_toArray, List.set_cons_zero, List.set_cons_succ, List.getElem_toArray, List.getElem_cons_succ, List.getElem_cons_zero]
              refine wpAnyH_ready (rs := [13]) (by kernel_rfl) (by simp) (AllReadyH.cons rfl (fun K hK => ?_) AllReadyH.nil)
              rw [if_pos (by kernel_rfl)]
              go_simp
              refine (lg_used hy3 s 2 HSZ.out).mono ?_
              rintro e y4 ⟨rfl, hy4⟩
              try rw [HEV2.out]
              try dsimp only
              refine hK.out _ _ (hy4.head) (fun hHeld => ?_)
              try simp only [Act.put, List.setIfInBounds_toArray, List.set_cons_zero, List.set_cons_succ, List.getElem_toArray, List.getElem_cons_succ, List.getElem_cons_zero]
              refine take_at (some 108) (i := 14) (v := ?_) rfl rfl (by kernel_rfl) (by kernel_rfl) (by kernel_rfl) (fun _ _ _ h => h) (Or.inl ⟨by kernel_rfl, ?_⟩) hHeld ?_
              rotate_left
              · intro wz hSw; have m3 : wz.cell? ⟨nb, 3, none⟩ = some (.int .u32 (xa : Int)) := hSw.cell 3; go_simp; try (with_reducible rfl)
              try simp only [Act.put, List.setIfInBounds_toArray, List.set_cons_zero, List.set_cons_succ, List.getElem_toArray, List.getElem_cons_succ, List.getElem_cons_zero]
              refine take_at (some 109) (i := 15) (v := ?_) rfl rfl (by kernel_rfl) (by kernel_rfl) (by kernel_rfl) (fun _ _ _ h => h) (Or.inl ⟨by kernel_rfl, ?_⟩) hHeld ?_
              rotate_left
              · intro wz hSw; have m3 : wz.cell? ⟨nb, 3, none⟩ = some (.int .u32 (xa : Int)) := hSw.cell 3; go_simp; try (with_reducible rfl)
              try simp only [Act.put, List.setIfInBounds_toArray, List.set_cons_zero, List.set_cons_succ, List.getElem_toArray, List.getElem_cons_succ, List.getElem_cons_zero]
              refine take_at (some 110) (i := 16) (v := ?_) rfl rfl (by kernel_rfl) (by kernel_rfl) (by kernel_rfl) (fun _ _ _ h => h) (Or.inl ⟨by kernel_rfl, ?_⟩) hHeld ?_
              rotate_left
              · intro wz hSw; have m3 : wz.cell? ⟨nb, 3, none⟩ = some (.int .u32 (xa : Int)) := hSw.cell 3; go_simp; try (with_reducible rfl)
              try simp only [Act.put, List.setIfInBounds_toArray, List.set_cons_zero, List.set_cons_succ, List.getElem_toArray, List.getElem_cons_succ, List.getElem_cons_zero]
              refine take_at (some 111) (i := 17) (v := ?_) rfl rfl (by kernel_rfl) (by kernel_rfl) (by kernel_rfl) (fun _ _ _ h => h) (Or.inl ⟨by kernel_rfl, ?_⟩) hHeld ?_
              rotate_left
              · intro wz hSw; have m3 : wz.cell? ⟨nb, 3, none⟩ = some (.int .u32 (xa : Int)) := hSw.cell 3; go_simp; try (with_reducible rfl)
              try simp only [Act.put, List.setIfInBounds_toArray, List.set_cons_zero, List.set_cons_succ, List.getElem_toArray, List.getElem_cons_succ, List.getElem_cons_zero]
              refine take_at (some 112) (i := 18) (v := ?_) rfl rfl (by kernel_rfl) (by kernel_rfl) (by kernel_rfl) (fun _ _ _ h => h) (Or.inl ⟨by kernel_rfl, ?_⟩) hHeld ?_
              rotate_left
              · intro wz hSw; have m3 : wz.cell? ⟨nb, 3, none⟩ = some (.int .u32 (xa : Int)) := hSw.cell 3; go_simp; try (with_reducible rfl)
              try simp only [Act.put, List.setIfInBounds_toArray, List.set_cons_zero, List.set_cons_succ, List.getElem_toArray, List.getElem_cons_succ, List.getElem_cons_zero]
              refine take_at (some 113) (i := 19) (v := ?_) rfl rfl (by kernel_rfl) (by kernel_rfl) (by kernel_rfl) (fun _ _ _ h => h) (Or.inl ⟨by kernel_rfl, ?_⟩) hHeld ?_
              rotate_left
              · intro wz hSw; have m3 : wz.cell? ⟨nb, 3, none⟩ = some (.int .u32 (xa : Int)) := hSw.cell 3; go_simp; try (with_reducible rfl)
              try simp only [Act.put, List.setIfInBounds_toArray, List.set_cons_zero, List.set_cons_succ, List.getElem_toArray, List.getElem_cons_succ, List.getElem_cons_zero]
              refine take_at (some 114) (i := 20) (v := ?_) rfl rfl (by kernel_rfl) (by kernel_rfl) (by kernel_rfl) (fun _ _ _ h => h) (Or.inl ⟨by kernel_rfl, ?_⟩) hHeld ?_
              rotate_left
              · intro wz hSw; have m3 : wz.cell? ⟨nb, 3, none⟩ = some (.int .u32 (xa : Int)) := hSw.cell 3; go_simp; try (with_reducible rfl)
              try simp only [Act.put, List.setIfInBounds_toArray, List.set_cons_zero, List.set_cons_succ, List.getElem_toArray, List.getElem_cons_succ, List.getElem_cons_zero]
              refine take_at (some 116) (i := 22) (v := ?_) rfl rfl (by kernel_rfl) (by kernel_rfl) (by kernel_rfl) (fun _ _ _ h => h) (Or.inl ⟨by kernel_rfl, ?_⟩) hHeld ?_
              rotate_left
              · intro wz hSw; have m3 : wz.cell? ⟨nb, 3, none⟩ = some (.int .u32 (xa : Int)) := hSw.cell 3; go_simp; try (with_reducible rfl)
              try simp only [Act.put, List.setIfInBounds_toArray, List.set_cons_zero, List.set_cons_succ, List.getElem_toArray, List.getElem_cons_succ, List.getElem_cons_zero]
              refine take_at (some 117) (i := 23) (v := ?_) rfl rfl (by kernel_rfl) (by kernel_rfl) (by kernel_rfl) (fun _ _ _ h => h) (Or.inl ⟨by kernel_rfl, ?_⟩) hHeld ?_
              rotate_left
              · intro wz hSw; have m3 : wz.cell? ⟨nb, 3, none⟩ = some (.int .u32 (xa : Int)) := hSw.cell 3; go_simp; try (with_reducible rfl)
              try simp only [Act.put, List.setIfInBounds_toArray, List.set_cons_zero, List.set_cons_succ, List.getElem_toArray, List.getElem_cons_succ, List.getElem_cons_zero]
              refine take_at (some 118) (i := 24) (v := ?_) rfl rfl (by kernel_rfl) (by kernel_rfl) (by kernel_rfl) (fun _ _ _ h => h) (Or.inl ⟨by kernel_rfl, ?_⟩) hHeld ?_
              rotate_left
              · intro wz hSw; have m3 : wz.cell? ⟨nb, 3, none⟩ = some (.int .u32 (xa : Int)) := hSw.cell 3; go_simp; try (with_reducible rfl)
              try simp only [Act.put, List.setIfInBounds_toArray, List.set_cons_zero, List.set_cons_succ, List.getElem_toArray, List.getElem_cons_succ, List.getElem_cons_zero]
              refine take_at (some 119) (i := 25) (v := ?_) rfl rfl (by kernel_rfl) (by kernel_rfl) (by kernel_rfl) (fun _ _ _ h => h) (Or.inl ⟨by kernel_rfl, ?_⟩) hHeld ?_
              rotate_left
              · intro wz hSw; have m3 : wz.cell? ⟨nb, 3, none⟩ = some (.int .u32 (xa : Int)) := hSw.cell 3; go_simp; try (with_reducible rfl)
              try simp only [Act.put, List.setIfInBounds_toArray, List.set_cons_zero, List.set_cons_succ, List.getElem_toArray, List.getElem_cons_succ, List.getElem_cons_zero]
              refine wpAnyH_ready (rs := [21]) (by kernel_rfl) (by simp) (AllReadyH.cons rfl (fun K hK => ?_) AllReadyH.nil)
              rw [if_pos (by kernel_rfl)]
              go_simp
              refine (lg_admit2 hy4 s xa HSZ.out HSM.out.2).mono ?_
              rintro e y5 ⟨rfl, hy5⟩
              try rw [HEA.out]
              try dsimp only
              refine hK.out _ _ (hy5.head) (fun hHeld => ?_)
              try simp only [Act.put, List.setIfInBounds_toArray, List.set_cons_zero, List.set_cons_succ, List.getElem_toArray, List.getElem_cons_succ, List.getElem_cons_zero]
              refine wpAnyH_ready (rs := [26]) (by kernel_rfl) (by simp) (AllReadyH.cons rfl (fun K hK => ?_) AllReadyH.nil)
              rw [if_pos (by kernel_rfl)]
              go_simp
              refine (lg_admit hy5 s xa HSZ.out HSM.out.2).mono ?_
              rintro e y6 ⟨rfl, hy6⟩
              try rw [HEA.out]
              try dsimp only
              refine hK.out _ _ (hy6.head) (fun hHeld => ?_)
              try simp only [Act.put, List.setIfInBounds_toArray, List.set_cons_zero, List.set_cons_succ, List.getElem_toArray, List.getElem_cons_succ, List.getElem_cons_zero]
              refine take_at (some 121) (i := 27) (v := ?_) rfl rfl (by kernel_rfl) (by kernel_rfl) (by kernel_rfl) (fun _ _ _ h => h) (Or.inl ⟨by kernel_rfl, ?_⟩) hHeld ?_
              rotate_left
              · intro wz hSw; have m3 : wz.cell? ⟨nb, 3, none⟩ = some (.int .u32 (xa : Int)) := hSw.cell 3; go_simp; try (with_reducible rfl)
              try simp only [Act.put, List.setIfInBounds_toArray, List.set_cons_zero, List.set_cons_succ, List.getElem_toArray, List.getElem_cons_succ, List.getElem_cons_zero]
              refine take_at (some 122) (i := 28) (v := ?_) rfl rfl (by kernel_rfl) (by kernel_rfl) (by kernel_rfl) (fun _ _ _ h => h) (Or.inl ⟨by kernel_rfl, ?_⟩) hHeld ?_
              rotate_left
              · intro wz hSw; have m3 : wz.cell? ⟨nb, 3, none⟩ = some (.int .u32 (xa : Int)) := hSw.cell 3; go_simp; try (with_reducible rfl)
              try simp only [Act.put, List.setIfInBounds_toArray, List.set_cons_zero, List.set_cons_succ, List.getElem_toArray, List.getElem_cons_succ, List.getElem_cons_zero]
              refine wpAnyH_done (by kernel_rfl) ?_ _
              refine gen_qX (fun y => Lg w tn [⟨g', mb', lo', hi', gs', V2⟩, ⟨g, mb, lo, hi, gs, U2⟩] ((nb, 35, #[.int .i64 xw, .string xt, .int .i64 xk, .int .u32 (xa : Int)]) :: [(g0, 24, #[.int .i64 a0, .int .i64 a1, .int .i64 a2, .int .i64 a3, .slice A n c])]) y) hy6 (fun yy hyy => ?_)
              clear hHeld hy1 hy2 hy3 hy4 hy5 hy6 HXD HX
              have HX := Lib.hid hyy
              clear hyy
              go_wp2
              go_roundw
              case rel => exact ⟨i + 1, U2, V2, by omega, by go_num, HE, Lib.hid (HX.out.less (fun b hb => List.mem_cons_of_mem _ hb))⟩
              case measure => simp [intOf]; omega
            · have hw2 : (xw == 2) = false := by rw [beq_eq_false_iff_ne]; exact hw
              by_cases hz : xw = 3
              · have hz2 : (xw != 3) = false := by rw [bne_eq_false_iff_eq]; exact hz
                clear hw hz
                have HX := HVN
                have HE := HUV
                obtain ⟨U2, hU2⟩ : ∃ U2, U = U2 := ⟨_, rfl⟩
                obtain ⟨V2, hV2⟩ : ∃ V2, V = V2 := ⟨_, rfl⟩
                rw [hU2, hV2] at HX HE
                clear hU2 hV2
                go_upto_region 19 with fail
                clear d0 d1 d2
                obtain ⟨n1, h1⟩ : ∃ n1, U2 s 1 = n1 := ⟨_, rfl⟩
                obtain ⟨n2, h2⟩ : ∃ n2, U2 s 2 = n2 := ⟨_, rfl⟩
                have HEU1 := Lib.hid h1
                have HEU2 := Lib.hid h2
                have HEV1 := Lib.hid ((HE.out 1).trans h1)
                have HEV2 := Lib.hid ((HE.out 2).trans h2)
                obtain ⟨e3, h3⟩ : ∃ e3, adI (gtF tn s) xa = e3 := ⟨_, rfl⟩
                have HEA := Lib.hid h3
                clear h1 h2 h3
                have hn1 : ((n1 : Int) != (n1 : Int)) = false := bne_self_eq_false _
                have hn2 : ((n2 : Int) != (n2 : Int)) = false := bne_self_eq_false _
                have hn3 : (e3 != e3) = false := bne_self_eq_false _
                go_upto_region 19 with fail
                try simp only [List.cons_append, List.nil_append]
                refine wp_region_held_drew (S := fun wz => Bk wz nb 35 #[.int .i64 xw, .string xt, .int .i64 xk, .int .u32 (xa : Int)]) (by kernel_rfl) (HX.out.head.drew) (fun hHeld => ?_)
                refine take_at (some 94) (i := 0) (v := ?_) rfl rfl (by kernel_rfl) (by kernel_rfl) (by kernel_rfl) (fun _ _ _ h => h) (Or.inl ⟨by kernel_rfl, ?_⟩) hHeld ?_
                rotate_left
                · intro wz hSw; have m3 : wz.cell? ⟨nb, 3, none⟩ = some (.int .u32 (xa : Int)) := hSw.cell 3; go_simp; try (with_reducible rfl)
                try simp only [Act.put, List.setIfInBounds_toArray, List.set_cons_zero, List.set_cons_succ, List.getElem_toArray, List.getElem_cons_succ, List.getElem_cons_zero]
                refine take_at (some 95) (i := 1) (v := ?_) rfl rfl (by kernel_rfl) (by kernel_rfl) (by kernel_rfl) (fun _ _ _ h => h) (Or.inl ⟨by kernel_rfl, ?_⟩) hHeld ?_
                rotate_left
                · intro wz hSw; have m3 : wz.cell? ⟨nb, 3, none⟩ = some (.int .u32 (xa : Int)) := hSw.cell 3; go_simp; try (with_reducible rfl)
                try simp only [Act.put, List.setIfInBounds_toArray, List.set_cons_zero, List.set_cons_succ, List.getElem_toArray, List.getElem_cons_succ, List.getElem_cons_zero]
                refine take_at (some 97) (i := 3) (v := ?_) rfl rfl (by kernel_rfl) (by kernel_rfl) (by kernel_rfl) (fun _ _ _ h => h) (Or.inl ⟨by kernel_rfl, ?_⟩) hHeld ?_
                rotate_left
                · intro wz hSw; have m3 : wz.cell? ⟨nb, 3, none⟩ = some (.int .u32 (xa : Int)) := hSw.cell 3; go_simp; try (with_reducible rfl)
                try simp only [Act.put, List.setIfInBounds_toArray, List.set_cons_zero, List.set_cons_succ, List.getElem_toArray, List.getElem_cons_succ, List.getElem_cons_zero]
                refine take_at (some 98) (i := 4) (v := ?_) rfl rfl (by kernel_rfl) (by kernel_rfl) (by kernel_rfl) (fun _ _ _ h => h) (Or.inl ⟨by kernel_rfl, ?_⟩) hHeld ?_
                rotate_left
                · intro wz hSw; have m3 : wz.cell? ⟨nb, 3, none⟩ = some (.int .u32 (xa : Int)) := hSw.cell 3; go_simp; try (with_reducible rfl)
                try simp only [Act.put, List.setIfInBounds_toArray, List.set_cons_zero, List.set_cons_succ, List.getElem_toArray, List.getElem_cons_succ, List.getElem_cons_zero]
                have HXD := Lib.hid (HX.out.on (Below.refl _ _).drew)
                refine wpAnyH_ready (rs := [2]) (by kernel_rfl) (by simp) (AllReadyH.cons rfl (fun K hK => ?_) AllReadyH.nil)
                rw [if_pos (by kernel_rfl)]
                go_simp
                refine (lg_used2 HXD.out s 1 HSZ.out).mono ?_
                rintro e y1 ⟨rfl, hy1⟩
                try rw [HEU1.out]
                try dsimp only
                refine hK.out _ _ (hy1.head) (fun hHeld => ?_)
                try simp only [Act.put, List.setIfInBounds_toArray, List.set_cons_zero, List.set_cons_succ, List.getElem_toArray, List.getElem_cons_succ, List.getElem_cons_zero]
                refine wpAnyH_ready (rs := [5]) (by kernel_rfl) (by simp) (AllReadyH.cons rfl (fun K hK => ?_) AllReadyH.nil)
                rw [if_pos (by kernel_rfl)]
                go_simp
                refine (lg_used hy1 s 1 HSZ.out).mono ?_
                rintro e y2 ⟨rfl, hy2⟩
                try rw [HEV1.out]
                try dsimp only
                refine hK.out _ _ (hy2.head) (fun hHeld => ?_)
                try simp only [Act.put, List.setIfInBounds_toArray, List.set_cons_zero, List.set_cons_succ, List.getElem_toArray, List.getElem_cons_succ, List.getElem_cons_zero]
                refine take_at (some 100) (i := 6) (v := ?_) rfl rfl (by kernel_rfl) (by kernel_rfl) (by kernel_rfl) (fun _ _ _ h => h) (Or.inl ⟨by kernel_rfl, ?_⟩) hHeld ?_
                rotate_left
                · intro wz hSw; have m3 : wz.cell? ⟨nb, 3, none⟩ = some (.int .u32 (xa : Int)) := hSw.cell 3; go_simp; try (with_reducible rfl)
                try simp only [Act.put, List.setIfInBounds_toArray, List.set_cons_zero, List.set_cons_succ, List.getElem_toArray, List.getElem_cons_succ, List.getElem_cons_zero]
                refine take_at (some 101) (i := 7) (v := ?_) rfl rfl (by kernel_rfl) (by kernel_rfl) (by kernel_rfl) (fun _ _ _ h => h) (Or.inl ⟨by kernel_rfl, ?_⟩) hHeld ?_
                rotate_left
                · intro wz hSw; have m3 : wz.cell? ⟨nb, 3, none⟩ = some (.int .u32 (xa : Int)) := hSw.cell 3; go_simp; try (with_reducible rfl)
                try simp only [Act.put, List.setIfInBounds_toArray, List.set_cons_zero, List.set_cons_succ, List.getElem_toArray, List.getElem_cons_succ, List.getElem_cons_zero]
                refine take_at (some 102) (i := 8) (v := ?_) rfl rfl (by kernel_rfl) (by kernel_rfl) (by kernel_rfl) (fun _ _ _ h => h) (Or.inl ⟨by kernel_rfl, ?_⟩) hHeld ?_
                rotate_left
                · intro wz hSw; have m3 : wz.cell? ⟨nb, 3, none⟩ = some (.int .u32 (xa : Int)) := hSw.cell 3; go_simp; try (with_reducible rfl)
                try simp only [Act.put, List.setIfInBounds_toArray, List.set_cons_zero, List.set_cons_succ, List.getElem_toArray, List.getElem_cons_succ, List.getElem_cons_zero]
                refine take_at (some 103) (i := 9) (v := ?_) rfl rfl (by kernel_rfl) (by kernel_rfl) (by kernel_rfl) (fun _ _ _ h => h) (Or.inl ⟨by kernel_rfl, ?_⟩) hHeld ?_
                rotate_left
                · intro wz hSw; have m3 : wz.cell? ⟨nb, 3, none⟩ = some (.int .u32 (xa : Int)) := hSw.cell 3; go_simp; try (with_reducible rfl)
                try simp only [Act.put, List.setIfInBounds_toArray, List.set_cons_zero, List.set_cons_succ, List.getElem_toArray, List.getElem_cons_succ, List.getElem_cons_zero]
                refine take_at (some 105) (i := 11) (v := ?_) rfl rfl (by kernel_rfl) (by kernel_rfl) (by kernel_rfl) (fun _ _ _ h => h) (Or.inl ⟨by kernel_rfl, ?_⟩) hHeld ?_
                rotate_left
                · intro wz hSw; have m3 : wz.cell? ⟨nb, 3, none⟩ = some (.int .u32 (xa : Int)) := hSw.cell 3; go_simp; try (with_reducible rfl)
                try simp only [Act.put, List.setIfInBounds_toArray, List.set_cons_zero, List.set_cons_succ, List.getElem_toArray, List.getElem_cons_succ, List.getElem_cons_zero]
                refine take_at (some 106) (i := 12) (v := ?_) rfl rfl (by kernel_rfl) (by kernel_rfl) (by kernel_rfl) (fun _ _ _ h => h) (Or.inl ⟨by kernel_rfl, ?_⟩) hHeld ?_
                rotate_left
                · intro wz hSw; have m3 : wz.cell? ⟨nb, 3, none⟩ = some (.int .u32 (xa : Int)) := hSw.cell 3; go_simp; try (with_reducible rfl)
                try simp only [Act.put, List.setIfInBounds_toArray, List.set_cons_zero, List.set_cons_succ, List.getElem_toArray, List.getElem_cons_succ, List.getElem_cons_zero]
                refine wpAnyH_ready (rs := [10]) (by kernel_rfl) (by simp) (AllReadyH.cons rfl (fun K hK => ?_) AllReadyH.nil)
                rw [if_pos (by kernel_rfl)]
                go_simp
                refine (lg_used2 hy2 s 2 HSZ.out).mono ?_
                rintro e y3 ⟨rfl, hy3⟩
                try rw [HEU2.out]
                try dsimp only
                refine hK.out _ _ (hy3.head) (fun hHeld => ?_)
                try simp only [Act.put, List.setIfInBounds_toArray, List.set_cons_zero, List.set_cons_succ, List.getElem_toArray, List.getElem_cons_succ, List.getElem_cons_zero]
                refine wpAnyH_ready (rs := [13]) (by kernel_rfl) (by simp) (AllReadyH.cons rfl (fun K hK => ?_) AllReadyH.nil)
                rw [if_pos (by kernel_rfl)]
                go_simp
                refine (lg_used hy3 s 2 HSZ.out).mono ?_
                rintro e y4 ⟨rfl, hy4⟩
                try rw [HEV2.out]
                try dsimp only
                refine hK.out _ _ (hy4.head) (fun hHeld => ?_)
                try simp only [Act.put, List.setIfInBounds_toArray, List.set_cons_zero, List.set_cons_succ, List.getElem_toArray, List.getElem_cons_succ, List.getElem_cons_zero]
                refine take_at (some 108) (i := 14) (v := ?_) rfl rfl (by kernel_rfl) (by kernel_rfl) (by kernel_rfl) (fun _ _ _ h => h) (Or.inl ⟨by kernel_rfl, ?_⟩) hHeld ?_
                rotate_left
                · intro wz hSw; have m3 : wz.cell? ⟨nb, 3, none⟩ = some (.int .u32 (xa : Int)) := hSw.cell 3; go_simp; try (with_reducible rfl)
                try simp only [Act.put, List.setIfInBounds_toArray, List.set_cons_zero, List.set_cons_succ, List.getElem_toArray, List.getElem_cons_succ, List.getElem_cons_zero]
                refine take_at (some 109) (i := 15) (v := ?_) rfl rfl (by kernel_rfl) (by kernel_rfl) (by kernel_rfl) (fun _ _ _ h => h) (Or.inl ⟨by kernel_rfl, ?_⟩) hHeld ?_
                rotate_left
                · intro wz hSw; have m3 : wz.cell? ⟨nb, 3, none⟩ = some (.int .u32 (xa : Int)) := hSw.cell 3; go_simp; try (with_reducible rfl)
                try simp only [Act.put, List.setIfInBounds_toArray, List.set_cons_zero, List.set_cons_succ, List.getElem_toArray, List.getElem_cons_succ, List.getElem_cons_zero]
                refine take_at (some 110) (i := 16) (v := ?_) rfl rfl (by kernel_rfl) (by kernel_rfl) (by kernel_rfl) (fun _ _ _ h => h) (Or.inl ⟨by kernel_rfl, ?_⟩) hHeld ?_
                rotate_left
                · intro wz hSw; have m3 : wz.cell? ⟨nb, 3, none⟩ = some (.int .u32 (xa : Int)) := hSw.cell 3; go_simp; try (with_reducible rfl)
                try simp only [Act.put, List.setIfInBounds_toArray, List.set_cons_zero, List.set_cons_succ, List.getElem_toArray, List.getElem_cons_succ, List.getElem_cons_zero]
                refine take_at (some 111) (i := 17) (v := ?_) rfl rfl (by kernel_rfl) (by kernel_rfl) (by kernel_rfl) (fun _ _ _ h => h) (Or.inl ⟨by kernel_rfl, ?_⟩) hHeld ?_
                rotate_left
                · intro wz hSw; have m3 : wz.cell? ⟨nb, 3, none⟩ = some (.int .u32 (xa : Int)) := hSw.cell 3; go_simp; try (with_reducible rfl)
                try simp only [Act.put, List.setIfInBounds_toArray, List.set_cons_zero, List.set_cons_succ, List.getElem_toArray, List.getElem_cons_succ, List.getElem_cons_zero]
                refine take_at (some 112) (i := 18) (v := ?_) rfl rfl (by kernel_rfl) (by kernel_rfl) (by kernel_rfl) (fun _ _ _ h => h) (Or.inl ⟨by kernel_rfl, ?_⟩) hHeld ?_
                rotate_left
                · intro wz hSw; have m3 : wz.cell? ⟨nb, 3, none⟩ = some (.int .u32 (xa : Int)) := hSw.cell 3; go_simp; try (with_reducible rfl)
                try simp only [Act.put, List.setIfInBounds_toArray, List.set_cons_zero, List.set_cons_succ, List.getElem_toArray, List.getElem_cons_succ, List.getElem_cons_zero]
                refine take_at (some 113) (i := 19) (v := ?_) rfl rfl (by kernel_rfl) (by kernel_rfl) (by kernel_rfl) (fun _ _ _ h => h) (Or.inl ⟨by kernel_rfl, ?_⟩) hHeld ?_
                rotate_left
                · intro wz hSw; have m3 : wz.cell? ⟨nb, 3, none⟩ = some (.int .u32 (xa : Int)) := hSw.cell 3; go_simp; try (with_reducible rfl)
                try simp only [Act.put, List.setIfInBounds_toArray, List.set_cons_zero, List.set_cons_succ, List.getElem_toArray, List.getElem_cons_succ, List.getElem_cons_zero]
                refine take_at (some 114) (i := 20) (v := ?_) rfl rfl (by kernel_rfl) (by kernel_rfl) (by kernel_rfl) (fun _ _ _ h => h) (Or.inl ⟨by kernel_rfl, ?_⟩) hHeld ?_
                rotate_left
                · intro wz hSw; have m3 : wz.cell? ⟨nb, 3, none⟩ = some (.int .u32 (xa : Int)) := hSw.cell 3; go_simp; try (with_reducible rfl)
                try simp only [Act.put, List.setIfInBounds_toArray, List.set_cons_zero, List.set_cons_succ, List.getElem_toArray, List.getElem_cons_succ, List.getElem_cons_zero]
                refine take_at (some 116) (i := 22) (v := ?_) rfl rfl (by kernel_rfl) (by kernel_rfl) (by kernel_rfl) (fun _ _ _ h => h) (Or.inl ⟨by kernel_rfl, ?_⟩) hHeld ?_
                rotate_left
                · intro wz hSw; have m3 : wz.cell? ⟨nb, 3, none⟩ = some (.int .u32 (xa : Int)) := hSw.cell 3; go_simp; try (with_reducible rfl)
                try simp only [Act.put, List.setIfInBounds_toArray, List.set_cons_zero, List.set_cons_succ, List.getElem_toArray, List.getElem_cons_succ, List.getElem_cons_zero]
                refine take_at (some 117) (i := 23) (v := ?_) rfl rfl (by kernel_rfl) (by kernel_rfl) (by kernel_rfl) (fun _ _ _ h => h) (Or.inl ⟨by kernel_rfl, ?_⟩) hHeld ?_
                rotate_left
                · intro wz hSw; have m3 : wz.cell? ⟨nb, 3, none⟩ = some (.int .u32 (xa : Int)) := hSw.cell 3; go_simp; try (with_reducible rfl)
                try simp only [Act.put, List.setIfInBounds_toArray, List.set_cons_zero, List.set_cons_succ, List.getElem_toArray, List.getElem_cons_succ, List.getElem_cons_zero]
                refine take_at (some 118) (i := 24) (v := ?_) rfl rfl (by kernel_rfl) (by kernel_rfl) (by kernel_rfl) (fun _ _ _ h => h) (Or.inl ⟨by kernel_rfl, ?_⟩) hHeld ?_
                rotate_left
                · intro wz hSw; have m3 : wz.cell? ⟨nb, 3, none⟩ = some (.int .u32 (xa : Int)) := hSw.cell 3; go_simp; try (with_reducible rfl)
                try simp only [Act.put, List.setIfInBounds_toArray, List.set_cons_zero, List.set_cons_succ, List.getElem_toArray, List.getElem_cons_succ, List.getElem_cons_zero]
                refine take_at (some 119) (i := 25) (v := ?_) rfl rfl (by kernel_rfl) (by kernel_rfl) (by kernel_rfl) (fun _ _ _ h => h) (Or.inl ⟨by kernel_rfl, ?_⟩) hHeld ?_
                rotate_left
                · intro wz hSw; have m3 : wz.cell? ⟨nb, 3, none⟩ = some (.int .u32 (xa : Int)) := hSw.cell 3; go_simp; try (with_reducible rfl)
                try simp only [Act.put, List.setIfInBounds_toArray, List.set_cons_zero, List.set_cons_succ, List.getElem_toArray, List.getElem_cons_succ, List.getElem_cons_zero]
                refine wpAnyH_ready (rs := [21]) (by kernel_rfl) (by simp) (AllReadyH.cons rfl (fun K hK => ?_) AllReadyH.nil)
                rw [if_pos (by kernel_rfl)]
                go_simp
                refine (lg_admit2 hy4 s xa HSZ.out HSM.out.2).mono ?_
                rintro e y5 ⟨rfl, hy5⟩
                try rw [HEA.out]
                try dsimp only
                refine hK.out _ _ (hy5.head) (fun hHeld => ?_)
                try simp only [Act.put, List.setIfInBounds_toArray, List.set_cons_zero, List.set_cons_succ, List.getElem_toArray, List.getElem_cons_succ, List.getElem_cons_zero]
                refine wpAnyH_ready (rs := [26]) (by kernel_rfl) (by simp) (AllReadyH.cons rfl (fun K hK => ?_) AllReadyH.nil)
                rw [if_pos (by kernel_rfl)]
                go_simp
                refine (lg_admit hy5 s xa HSZ.out HSM.out.2).mono ?_
                rintro e y6 ⟨rfl, hy6⟩
                try rw [HEA.out]
                try dsimp only
                refine hK.out _ _ (hy6.head) (fun hHeld => ?_)
                try simp only [Act.put, List.setIfInBounds_toArray, List.set_cons_zero, List.set_cons_succ, List.getElem_toArray, List.getElem_cons_succ, List.getElem_cons_zero]
                refine take_at (some 121) (i := 27) (v := ?_) rfl rfl (by kernel_rfl) (by kernel_rfl) (by kernel_rfl) (fun _ _ _ h => h) (Or.inl ⟨by kernel_rfl, ?_⟩) hHeld ?_
                rotate_left
                · intro wz hSw; have m3 : wz.cell? ⟨nb, 3, none⟩ = some (.int .u32 (xa : Int)) := hSw.cell 3; go_simp; try (with_reducible rfl)
                try simp only [Act.put, List.setIfInBounds_toArray, List.set_cons_zero, List.set_cons_succ, List.getElem_toArray, List.getElem_cons_succ, List.getElem_cons_zero]
                refine take_at (some 122) (i := 28) (v := ?_) rfl rfl (by kernel_rfl) (by kernel_rfl) (by kernel_rfl) (fun _ _ _ h => h) (Or.inl ⟨by kernel_rfl, ?_⟩) hHeld ?_
                rotate_left
                · intro wz hSw; have m3 : wz.cell? ⟨nb, 3, none⟩ = some (.int .u32 (xa : Int)) := hSw.cell 3; go_simp; try (with_reducible rfl)
                try simp only [Act.put, List.setIfInBounds_toArray, List.set_cons_zero, List.set_cons_succ, List.getElem_toArray, List.getElem_cons_succ, List.getElem_cons_zero]
                refine wpAnyH_done (by kernel_rfl) ?_ _
                refine gen_qX (fun y => Lg w tn [⟨g', mb', lo', hi', gs', V2⟩, ⟨g, mb, lo, hi, gs, U2⟩] ((nb, 35, #[.int .i64 xw, .string xt, .int .i64 xk, .int .u32 (xa : Int)]) :: [(g0, 24, #[.int .i64 a0, .int .i64 a1, .int .i64 a2, .int .i64 a3, .slice A n c])]) y) hy6 (fun yy hyy => ?_)
                clear hHeld hy1 hy2 hy3 hy4 hy5 hy6 HXD HX
                have HX := Lib.hid hyy
                clear hyy
                go_wp2
                go_roundw
                case rel => exact ⟨i + 1, U2, V2, by omega, by go_num, HE, Lib.hid (HX.out.less (fun b hb => List.mem_cons_of_mem _ hb))⟩
                case measure => simp [intOf]; omega
              · have hz2 : (xw != 3) = true := by rw [bne_iff_ne]; exact hz
                clear hw hz
                have HSA := Lib.hid (show tkI (gtF tn xt) (V xt xk) xk = tkI (gtF tn xt) (U xt xk) xk ∧ ∀ j, (tkU (gtF tn xt) V xt xk) s j = (tkU (gtF tn xt) U xt xk) s j by rw [HXS.out]; exact take_same HUV.out xk)
                obtain ⟨E, hE⟩ : ∃ E, tkI (gtF tn xt) (U xt xk) xk = E := ⟨_, rfl⟩
                have HEV := Lib.hid (HSA.out.1.trans hE)
                have HEU := Lib.hid hE
                clear hE
                have hEE : (E != E) = false := bne_self_eq_false E
                obtain ⟨U2, hU2⟩ : ∃ U2, tkU (gtF tn xt) U xt xk = U2 := ⟨_, rfl⟩
                obtain ⟨V2, hV2⟩ : ∃ V2, tkU (gtF tn xt) V xt xk = V2 := ⟨_, rfl⟩
                have HE := Lib.hid (show ∀ j, V2 s j = U2 s j by rw [← hU2, ← hV2]; exact HSA.out.2)
                have HU2 := Lib.hid hU2
                have HV2' := Lib.hid hV2
                clear hU2 hV2
                have HC1 := Lib.hid (show ∀ u, Lg w tn [⟨g', mb', lo', hi', gs', V⟩, ⟨g, mb, lo, hi, gs, U⟩] ((nb, 35, #[.int .i64 xw, .string xt, .int .i64 xk, .int .u32 (xa : Int)]) :: [(g0, 24, #[.int .i64 a0, .int .i64 a1, .int .i64 a2, .int .i64 a3, .slice A n c])]) u → Calls Try.prog 18 #[.pointer (some ⟨g, 0, none⟩), .string xt, .int .i64 xk] u fun e u' => e = .returned (.int .i64 E) ∧ Lg w tn [⟨g', mb', lo', hi', gs', V⟩, ⟨g, mb, lo, hi, gs, U2⟩] ((nb, 35, #[.int .i64 xw, .string xt, .int .i64 xk, .int .u32 (xa : Int)]) :: [(g0, 24, #[.int .i64 a0, .int .i64 a1, .int .i64 a2, .int .i64 a3, .slice A n c])]) u' from fun u hu => by have := lg_take2 hu xt xk HSM.out.1; rwa [HEU.out, HU2.out] at this)
                have HC2 := Lib.hid (show ∀ u, Lg w tn [⟨g', mb', lo', hi', gs', V⟩, ⟨g, mb, lo, hi, gs, U2⟩] ((nb, 35, #[.int .i64 xw, .string xt, .int .i64 xk, .int .u32 (xa : Int)]) :: [(g0, 24, #[.int .i64 a0, .int .i64 a1, .int .i64 a2, .int .i64 a3, .slice A n c])]) u → Calls Try.prog 18 #[.pointer (some ⟨g', 0, none⟩), .string xt, .int .i64 xk] u fun e u' => e = .returned (.int .i64 E) ∧ Lg w tn [⟨g', mb', lo', hi', gs', V2⟩, ⟨g, mb, lo, hi, gs, U2⟩] ((nb, 35, #[.int .i64 xw, .string xt, .int .i64 xk, .int .u32 (xa : Int)]) :: [(g0, 24, #[.int .i64 a0, .int .i64 a1, .int .i64 a2, .int .i64 a3, .slice A n c])]) u' from fun u hu => by have := lg_take hu xt xk HSM.out.1; rwa [HEV.out, HV2'.out] at this)
                go_upto_region 19 with (first
                  | (go_at_call 18; (with_reducible refine (HC1.out _ HVN.out).mono ?_); rintro e u6 ⟨rfl, hv⟩; have HV6 := Lib.hid hv; clear hv; clear d0 d1 d2; have d1 : u6.cell? ⟨nb, 1, none⟩ = some (.string xt) := HV6.out.head.cell 1; have d2 : u6.cell? ⟨nb, 2, none⟩ = some (.int .i64 xk) := HV6.out.head.cell 2)
                  | (go_at_call 18; (with_reducible refine (HC2.out _ HV6.out).mono ?_); rintro e u7 ⟨rfl, hv⟩; have HX := Lib.hid hv; clear hv d1 d2))
                obtain ⟨n1, h1⟩ : ∃ n1, U2 s 1 = n1 := ⟨_, rfl⟩
                obtain ⟨n2, h2⟩ : ∃ n2, U2 s 2 = n2 := ⟨_, rfl⟩
                have HEU1 := Lib.hid h1
                have HEU2 := Lib.hid h2
                have HEV1 := Lib.hid ((HE.out 1).trans h1)
                have HEV2 := Lib.hid ((HE.out 2).trans h2)
                obtain ⟨e3, h3⟩ : ∃ e3, adI (gtF tn s) xa = e3 := ⟨_, rfl⟩
                have HEA := Lib.hid h3
                clear h1 h2 h3
                have hn1 : ((n1 : Int) != (n1 : Int)) = false := bne_self_eq_false _
                have hn2 : ((n2 : Int) != (n2 : Int)) = false := bne_self_eq_false _
                have hn3 : (e3 != e3) = false := bne_self_eq_false _
                go_upto_region 19 with fail
                try simp only [List.cons_append, List.nil_append]
                refine wp_region_held_drew (S := fun wz => Bk wz nb 35 #[.int .i64 xw, .string xt, .int .i64 xk, .int .u32 (xa : Int)]) (by kernel_rfl) (HX.out.head.drew) (fun hHeld => ?_)
                refine take_at (some 94) (i := 0) (v := ?_) rfl rfl (by kernel_rfl) (by kernel_rfl) (by kernel_rfl) (fun _ _ _ h => h) (Or.inl ⟨by kernel_rfl, ?_⟩) hHeld ?_
                rotate_left
                · intro wz hSw; have m3 : wz.cell? ⟨nb, 3, none⟩ = some (.int .u32 (xa : Int)) := hSw.cell 3; go_simp; try (with_reducible rfl)
                try simp only [Act.put, List.setIfInBounds_toArray, List.set_cons_zero, List.set_cons_succ, List.getElem_toArray, List.getElem_cons_succ, List.getElem_cons_zero]
                refine take_at (some 95) (i := 1) (v := ?_) rfl rfl (by kernel_rfl) (by kernel_rfl) (by kernel_rfl) (fun _ _ _ h => h) (Or.inl ⟨by kernel_rfl, ?_⟩) hHeld ?_
                rotate_left
                · intro wz hSw; have m3 : wz.cell? ⟨nb, 3, none⟩ = some (.int .u32 (xa : Int)) := hSw.cell 3; go_simp; try (with_reducible rfl)
                try simp only [Act.put, List.setIfInBounds_toArray, List.set_cons_zero, List.set_cons_succ, List.getElem_toArray, List.getElem_cons_succ, List.getElem_cons_zero]
                refine take_at (some 97) (i := 3) (v := ?_) rfl rfl (by kernel_rfl) (by kernel_rfl) (by kernel_rfl) (fun _ _ _ h => h) (Or.inl ⟨by kernel_rfl, ?_⟩) hHeld ?_
                rotate_left
                · intro wz hSw; have m3 : wz.cell? ⟨nb, 3, none⟩ = some (.int .u32 (xa : Int)) := hSw.cell 3; go_simp; try (with_reducible rfl)
                try simp only [Act.put, List.setIfInBounds_toArray, List.set_cons_zero, List.set_cons_succ, List.getElem_toArray, List.getElem_cons_succ, List.getElem_cons_zero]
                refine take_at (some 98) (i := 4) (v := ?_) rfl rfl (by kernel_rfl) (by kernel_rfl) (by kernel_rfl) (fun _ _ _ h => h) (Or.inl ⟨by kernel_rfl, ?_⟩) hHeld ?_
                rotate_left
                · intro wz hSw; have m3 : wz.cell? ⟨nb, 3, none⟩ = some (.int .u32 (xa : Int)) := hSw.cell 3; go_simp; try (with_reducible rfl)
                try simp only [Act.put, List.setIfInBounds_toArray, List.set_cons_zero, List.set_cons_succ, List.getElem_toArray, List.getElem_cons_succ, List.getElem_cons_zero]
                have HXD := Lib.hid (HX.out.on (Below.refl _ _).drew)
                refine wpAnyH_ready (rs := [2]) (by kernel_rfl) (by simp) (AllReadyH.cons rfl (fun K hK => ?_) AllReadyH.nil)
                rw [if_pos (by kernel_rfl)]
                go_simp
                refine (lg_used2 HXD.out s 1 HSZ.out).mono ?_
                rintro e y1 ⟨rfl, hy1⟩
                try rw [HEU1.out]
                try dsimp only
                refine hK.out _ _ (hy1.head) (fun hHeld => ?_)
                try simp only [Act.put, List.setIfInBounds_toArray, List.set_cons_zero, List.set_cons_succ, List.getElem_toArray, List.getElem_cons_succ, List.getElem_cons_zero]
                refine wpAnyH_ready (rs := [5]) (by kernel_rfl) (by simp) (AllReadyH.cons rfl (fun K hK => ?_) AllReadyH.nil)
                rw [if_pos (by kernel_rfl)]
                go_simp
                refine (lg_used hy1 s 1 HSZ.out).mono ?_
                rintro e y2 ⟨rfl, hy2⟩
                try rw [HEV1.out]
                try dsimp only
                refine hK.out _ _ (hy2.head) (fun hHeld => ?_)
                try simp only [Act.put, List.setIfInBounds_toArray, List.set_cons_zero, List.set_cons_succ, List.getElem_toArray, List.getElem_cons_succ, List.getElem_cons_zero]
                refine take_at (some 100) (i := 6) (v := ?_) rfl rfl (by kernel_rfl) (by kernel_rfl) (by kernel_rfl) (fun _ _ _ h => h) (Or.inl ⟨by kernel_rfl, ?_⟩) hHeld ?_
                rotate_left
                · intro wz hSw; have m3 : wz.cell? ⟨nb, 3, none⟩ = some (.int .u32 (xa : Int)) := hSw.cell 3; go_simp; try (with_reducible rfl)
                try simp only [Act.put, List.setIfInBounds_toArray, List.set_cons_zero, List.set_cons_succ, List.getElem_toArray, List.getElem_cons_succ, List.getElem_cons_zero]
                refine take_at (some 101) (i := 7) (v := ?_) rfl rfl (by kernel_rfl) (by kernel_rfl) (by kernel_rfl) (fun _ _ _ h => h) (Or.inl ⟨by kernel_rfl, ?_⟩) hHeld ?_
                rotate_left
                · intro wz hSw; have m3 : wz.cell? ⟨nb, 3, none⟩ = some (.int .u32 (xa : Int)) := hSw.cell 3; go_simp; try (with_reducible rfl)
                try simp only [Act.put, List.setIfInBounds_toArray, List.set_cons_zero, List.set_cons_succ, List.getElem_toArray, List.getElem_cons_succ, List.getElem_cons_zero]
                refine take_at (some 102) (i := 8) (v := ?_) rfl rfl (by kernel_rfl) (by kernel_rfl) (by kernel_rfl) (fun _ _ _ h => h) (Or.inl ⟨by kernel_rfl, ?_⟩) hHeld ?_
                rotate_left
                · intro wz hSw; have m3 : wz.cell? ⟨nb, 3, none⟩ = some (.int .u32 (xa : Int)) := hSw.cell 3; go_simp; try (with_reducible rfl)
                try simp only [Act.put, List.setIfInBounds_toArray, List.set_cons_zero, List.set_cons_succ, List.getElem_toArray, List.getElem_cons_succ, List.getElem_cons_zero]
                refine take_at (some 103) (i := 9) (v := ?_) rfl rfl (by kernel_rfl) (by kernel_rfl) (by kernel_rfl) (fun _ _ _ h => h) (Or.inl ⟨by kernel_rfl, ?_⟩) hHeld ?_
                rotate_left
                · intro wz hSw; have m3 : wz.cell? ⟨nb, 3, none⟩ = some (.int .u32 (xa : Int)) := hSw.cell 3; go_simp; try (with_reducible rfl)
                try simp only [Act.put, List.setIfInBounds_toArray, List.set_cons_zero, List.set_cons_succ, List.getElem_toArray, List.getElem_cons_succ, List.getElem_cons_zero]
                refine take_at (some 105) (i := 11) (v := ?_) rfl rfl (by kernel_rfl) (by kernel_rfl) (by kernel_rfl) (fun _ _ _ h => h) (Or.inl ⟨by kernel_rfl, ?_⟩) hHeld ?_
                rotate_left
                · intro wz hSw; have m3 : wz.cell? ⟨nb, 3, none⟩ = some (.int .u32 (xa : Int)) := hSw.cell 3; go_simp; try (with_reducible rfl)
                try simp only [Act.put, List.setIfInBounds_toArray, List.set_cons_zero, List.set_cons_succ, List.getElem_toArray, List.getElem_cons_succ, List.getElem_cons_zero]
                refine take_at (some 106) (i := 12) (v := ?_) rfl rfl (by kernel_rfl) (by kernel_rfl) (by kernel_rfl) (fun _ _ _ h => h) (Or.inl ⟨by kernel_rfl, ?_⟩) hHeld ?_
                rotate_left
                · intro wz hSw; have m3 : wz.cell? ⟨nb, 3, none⟩ = some (.int .u32 (xa : Int)) := hSw.cell 3; go_simp; try (with_reducible rfl)
                try simp only [Act.put, List.setIfInBounds_toArray, List.set_cons_zero, List.set_cons_succ, List.getElem_toArray, List.getElem_cons_succ, List.getElem_cons_zero]
                refine wpAnyH_ready (rs := [10]) (by kernel_rfl) (by simp) (AllReadyH.cons rfl (fun K hK => ?_) AllReadyH.nil)
                rw [if_pos (by kernel_rfl)]
                go_simp
                refine (lg_used2 hy2 s 2 HSZ.out).mono ?_
                rintro e y3 ⟨rfl, hy3⟩
                try rw [HEU2.out]
                try dsimp only
                refine hK.out _ _ (hy3.head) (fun hHeld => ?_)
                try simp only [Act.put, List.setIfInBounds_toArray, List.set_cons_zero, List.set_cons_succ, List.getElem_toArray, List.getElem_cons_succ, List.getElem_cons_zero]
                refine wpAnyH_ready (rs := [13]) (by kernel_rfl) (by simp) (AllReadyH.cons rfl (fun K hK => ?_) AllReadyH.nil)
                rw [if_pos (by kernel_rfl)]
                go_simp
                refine (lg_used hy3 s 2 HSZ.out).mono ?_
                rintro e y4 ⟨rfl, hy4⟩
                try rw [HEV2.out]
                try dsimp only
                refine hK.out _ _ (hy4.head) (fun hHeld => ?_)
                try simp only [Act.put, List.setIfInBounds_toArray, List.set_cons_zero, List.set_cons_succ, List.getElem_toArray, List.getElem_cons_succ, List.getElem_cons_zero]
                refine take_at (some 108) (i := 14) (v := ?_) rfl rfl (by kernel_rfl) (by kernel_rfl) (by kernel_rfl) (fun _ _ _ h => h) (Or.inl ⟨by kernel_rfl, ?_⟩) hHeld ?_
                rotate_left
                · intro wz hSw; have m3 : wz.cell? ⟨nb, 3, none⟩ = some (.int .u32 (xa : Int)) := hSw.cell 3; go_simp; try (with_reducible rfl)
                try simp only [Act.put, List.setIfInBounds_toArray, List.set_cons_zero, List.set_cons_succ, List.getElem_toArray, List.getElem_cons_succ, List.getElem_cons_zero]
                refine take_at (some 109) (i := 15) (v := ?_) rfl rfl (by kernel_rfl) (by kernel_rfl) (by kernel_rfl) (fun _ _ _ h => h) (Or.inl ⟨by kernel_rfl, ?_⟩) hHeld ?_
                rotate_left
                · intro wz hSw; have m3 : wz.cell? ⟨nb, 3, none⟩ = some (.int .u32 (xa : Int)) := hSw.cell 3; go_simp; try (with_reducible rfl)
                try simp only [Act.put, List.setIfInBounds_toArray, List.set_cons_zero, List.set_cons_succ, List.getElem_toArray, List.getElem_cons_succ, List.getElem_cons_zero]
                refine take_at (some 110) (i := 16) (v := ?_) rfl rfl (by kernel_rfl) (by kernel_rfl) (by kernel_rfl) (fun _ _ _ h => h) (Or.inl ⟨by kernel_rfl, ?_⟩) hHeld ?_
                rotate_left
                · intro wz hSw; have m3 : wz.cell? ⟨nb, 3, none⟩ = some (.int .u32 (xa : Int)) := hSw.cell 3; go_simp; try (with_reducible rfl)
                try simp only [Act.put, List.setIfInBounds_toArray, List.set_cons_zero, List.set_cons_succ, List.getElem_toArray, List.getElem_cons_succ, List.getElem_cons_zero]
                refine take_at (some 111) (i := 17) (v := ?_) rfl rfl (by kernel_rfl) (by kernel_rfl) (by kernel_rfl) (fun _ _ _ h => h) (Or.inl ⟨by kernel_rfl, ?_⟩) hHeld ?_
                rotate_left
                · intro wz hSw; have m3 : wz.cell? ⟨nb, 3, none⟩ = some (.int .u32 (xa : Int)) := hSw.cell 3; go_simp; try (with_reducible rfl)
                try simp only [Act.put, List.setIfInBounds_toArray, List.set_cons_zero, List.set_cons_succ, List.getElem_toArray, List.getElem_cons_succ, List.getElem_cons_zero]
                refine take_at (some 112) (i := 18) (v := ?_) rfl rfl (by kernel_rfl) (by kernel_rfl) (by kernel_rfl) (fun _ _ _ h => h) (Or.inl ⟨by kernel_rfl, ?_⟩) hHeld ?_
                rotate_left
                · intro wz hSw; have m3 : wz.cell? ⟨nb, 3, none⟩ = some (.int .u32 (xa : Int)) := hSw.cell 3; go_simp; try (with_reducible rfl)
                try simp only [Act.put, List.setIfInBounds_toArray, List.set_cons_zero, List.set_cons_succ, List.getElem_toArray, List.getElem_cons_succ, List.getElem_cons_zero]
                refine take_at (some 113) (i := 19) (v := ?_) rfl rfl (by kernel_rfl) (by kernel_rfl) (by kernel_rfl) (fun _ _ _ h => h) (Or.inl ⟨by kernel_rfl, ?_⟩) hHeld ?_
                rotate_left
                · intro wz hSw; have m3 : wz.cell? ⟨nb, 3, none⟩ = some (.int .u32 (xa : Int)) := hSw.cell 3; go_simp; try (with_reducible rfl)
                try simp only [Act.put, List.setIfInBounds_toArray, List.set_cons_zero, List.set_cons_succ, List.getElem_toArray, List.getElem_cons_succ, List.getElem_cons_zero]
                refine take_at (some 114) (i := 20) (v := ?_) rfl rfl (by kernel_rfl) (by kernel_rfl) (by kernel_rfl) (fun _ _ _ h => h) (Or.inl ⟨by kernel_rfl, ?_⟩) hHeld ?_
                rotate_left
                · intro wz hSw; have m3 : wz.cell? ⟨nb, 3, none⟩ = some (.int .u32 (xa : Int)) := hSw.cell 3; go_simp; try (with_reducible rfl)
                try simp only [Act.put, List.setIfInBounds_toArray, List.set_cons_zero, List.set_cons_succ, List.getElem_toArray, List.getElem_cons_succ, List.getElem_cons_zero]
                refine take_at (some 116) (i := 22) (v := ?_) rfl rfl (by kernel_rfl) (by kernel_rfl) (by kernel_rfl) (fun _ _ _ h => h) (Or.inl ⟨by kernel_rfl, ?_⟩) hHeld ?_
                rotate_left
                · intro wz hSw; have m3 : wz.cell? ⟨nb, 3, none⟩ = some (.int .u32 (xa : Int)) := hSw.cell 3; go_simp; try (with_reducible rfl)
                try simp only [Act.put, List.setIfInBounds_toArray, List.set_cons_zero, List.set_cons_succ, List.getElem_toArray, List.getElem_cons_succ, List.getElem_cons_zero]
                refine take_at (some 117) (i := 23) (v := ?_) rfl rfl (by kernel_rfl) (by kernel_rfl) (by kernel_rfl) (fun _ _ _ h => h) (Or.inl ⟨by kernel_rfl, ?_⟩) hHeld ?_
                rotate_left
                · intro wz hSw; have m3 : wz.cell? ⟨nb, 3, none⟩ = some (.int .u32 (xa : Int)) := hSw.cell 3; go_simp; try (with_reducible rfl)
                try simp only [Act.put, List.setIfInBounds_toArray, List.set_cons_zero, List.set_cons_succ, List.getElem_toArray, List.getElem_cons_succ, List.getElem_cons_zero]
                refine take_at (some 118) (i := 24) (v := ?_) rfl rfl (by kernel_rfl) (by kernel_rfl) (by kernel_rfl) (fun _ _ _ h => h) (Or.inl ⟨by kernel_rfl, ?_⟩) hHeld ?_
                rotate_left
                · intro wz hSw; have m3 : wz.cell? ⟨nb, 3, none⟩ = some (.int .u32 (xa : Int)) := hSw.cell 3; go_simp; try (with_reducible rfl)
                try simp only [Act.put, List.setIfInBounds_toArray, List.set_cons_zero, List.set_cons_succ, List.getElem_toArray, List.getElem_cons_succ, List.getElem_cons_zero]
                refine take_at (some 119) (i := 25) (v := ?_) rfl rfl (by kernel_rfl) (by kernel_rfl) (by kernel_rfl) (fun _ _ _ h => h) (Or.inl ⟨by kernel_rfl, ?_⟩) hHeld ?_
                rotate_left
                · intro wz hSw; have m3 : wz.cell? ⟨nb, 3, none⟩ = some (.int .u32 (xa : Int)) := hSw.cell 3; go_simp; try (with_reducible rfl)
                try simp only [Act.put, List.setIfInBounds_toArray, List.set_cons_zero, List.set_cons_succ, List.getElem_toArray, List.getElem_cons_succ, List.getElem_cons_zero]
                refine wpAnyH_ready (rs := [21]) (by kernel_rfl) (by simp) (AllReadyH.cons rfl (fun K hK => ?_) AllReadyH.nil)
                rw [if_pos (by kernel_rfl)]
                go_simp
                refine (lg_admit2 hy4 s xa HSZ.out HSM.out.2).mono ?_
                rintro e y5 ⟨rfl, hy5⟩
                try rw [HEA.out]
                try dsimp only
                refine hK.out _ _ (hy5.head) (fun hHeld => ?_)
                try simp only [Act.put, List.setIfInBounds_toArray, List.set_cons_zero, List.set_cons_succ, List.getElem_toArray, List.getElem_cons_succ, List.getElem_cons_zero]
                refine wpAnyH_ready (rs := [26]) (by kernel_rfl) (by simp) (AllReadyH.cons rfl (fun K hK => ?_) AllReadyH.nil)
                rw [if_pos (by kernel_rfl)]
                go_simp
                refine (lg_admit hy5 s xa HSZ.out HSM.out.2).mono ?_
                rintro e y6 ⟨rfl, hy6⟩
                try rw [HEA.out]
                try dsimp only
                refine hK.out _ _ (hy6.head) (fun hHeld => ?_)
                try simp only [Act.put, List.setIfInBounds_toArray, List.set_cons_zero, List.set_cons_succ, List.getElem_toArray, List.getElem_cons_succ, List.getElem_cons_zero]
                refine take_at (some 121) (i := 27) (v := ?_) rfl rfl (by kernel_rfl) (by kernel_rfl) (by kernel_rfl) (fun _ _ _ h => h) (Or.inl ⟨by kernel_rfl, ?_⟩) hHeld ?_
                rotate_left
                · intro wz hSw; have m3 : wz.cell? ⟨nb, 3, none⟩ = some (.int .u32 (xa : Int)) := hSw.cell 3; go_simp; try (with_reducible rfl)
                try simp only [Act.put, List.setIfInBounds_toArray, List.set_cons_zero, List.set_cons_succ, List.getElem_toArray, List.getElem_cons_succ, List.getElem_cons_zero]
                refine take_at (some 122) (i := 28) (v := ?_) rfl rfl (by kernel_rfl) (by kernel_rfl) (by kernel_rfl) (fun _ _ _ h => h) (Or.inl ⟨by kernel_rfl, ?_⟩) hHeld ?_
                rotate_left
                · intro wz hSw; have m3 : wz.cell? ⟨nb, 3, none⟩ = some (.int .u32 (xa : Int)) := hSw.cell 3; go_simp; try (with_reducible rfl)
                try simp only [Act.put, List.setIfInBounds_toArray, List.set_cons_zero, List.set_cons_succ, List.getElem_toArray, List.getElem_cons_succ, List.getElem_cons_zero]
                refine wpAnyH_done (by kernel_rfl) ?_ _
                refine gen_qX (fun y => Lg w tn [⟨g', mb', lo', hi', gs', V2⟩, ⟨g, mb, lo, hi, gs, U2⟩] ((nb, 35, #[.int .i64 xw, .string xt, .int .i64 xk, .int .u32 (xa : Int)]) :: [(g0, 24, #[.int .i64 a0, .int .i64 a1, .int .i64 a2, .int .i64 a3, .slice A n c])]) y) hy6 (fun yy hyy => ?_)
                clear hHeld hy1 hy2 hy3 hy4 hy5 hy6 HXD HX
                have HX := Lib.hid hyy
                clear hyy
                go_wp2
                go_roundw
                case rel => exact ⟨i + 1, U2, V2, by omega, by go_num, HE, Lib.hid (HX.out.less (fun b hb => List.mem_cons_of_mem _ hb))⟩
                case measure => simp [intOf]; omega
          · have hq2 : (xt.toList == s.toList) = false := by
              cases hh : (xt.toList == s.toList)
              · rfl
              · exact absurd (nmEq_iff.1 hh) hq
            have HXS := Lib.hid (show s ≠ xt from fun e => hq e.symm)
            clear hq
            by_cases hw : xw = 2
            · have hw2 : (xw == 2) = true := by rw [beq_iff_eq]; exact hw
              clear hw
              obtain ⟨E, hE⟩ : ∃ E, gvB U xt xk = E := ⟨_, rfl⟩
              have HEU := Lib.hid hE
              clear hE
              obtain ⟨U2, hU2⟩ : ∃ U2, gvU U xt xk = U2 := ⟨_, rfl⟩
              obtain ⟨V2, hV2⟩ : ∃ V2, V = V2 := ⟨_, rfl⟩
              rw [hV2] at HUV HVN
              clear hV2
              have HE := Lib.hid (show ∀ j, V2 s j = U2 s j from fun j => by rw [← hU2, HUV.out j]; exact (give_far HXS.out xk j).symm)
              have HU2 := Lib.hid hU2
              clear hU2
              have HC1 := Lib.hid (show ∀ u, Lg w tn [⟨g', mb', lo', hi', gs', V2⟩, ⟨g, mb, lo, hi, gs, U⟩] ((nb, 35, #[.int .i64 xw, .string xt, .int .i64 xk, .int .u32 (xa : Int)]) :: [(g0, 24, #[.int .i64 a0, .int .i64 a1, .int .i64 a2, .int .i64 a3, .slice A n c])]) u → Calls Try.prog 14 #[.pointer (some ⟨g, 0, none⟩), .string xt, .int .i64 xk] u fun e u' => e = .returned (.bool E) ∧ Lg w tn [⟨g', mb', lo', hi', gs', V2⟩, ⟨g, mb, lo, hi, gs, U2⟩] ((nb, 35, #[.int .i64 xw, .string xt, .int .i64 xk, .int .u32 (xa : Int)]) :: [(g0, 24, #[.int .i64 a0, .int .i64 a1, .int .i64 a2, .int .i64 a3, .slice A n c])]) u' from fun u hu => by have := lg_give2 hu xt xk HSM.out.1; rwa [HEU.out, HU2.out] at this)
              go_upto_region 19 with (go_at_call 14; (with_reducible refine (HC1.out _ HVN.out).mono ?_); rintro e u6 ⟨rfl, hv⟩; have HX := Lib.hid hv; clear hv d0 d1 d2)
              obtain ⟨n1, h1⟩ : ∃ n1, U2 s 1 = n1 := ⟨_, rfl⟩
              obtain ⟨n2, h2⟩ : ∃ n2, U2 s 2 = n2 := ⟨_, rfl⟩
              have HEU1 := Lib.hid h1
              have HEU2 := Lib.hid h2
              have HEV1 := Lib.hid ((HE.out 1).trans h1)
              have HEV2 := Lib.hid ((HE.out 2).trans h2)
              obtain ⟨e3, h3⟩ : ∃ e3, adI (gtF tn s) xa = e3 := ⟨_, rfl⟩
              have HEA := Lib.hid h3
              clear h1 h2 h3
              have hn1 : ((n1 : Int) != (n1 : Int)) = false := bne_self_eq_false _
              have hn2 : ((n2 : Int) != (n2 : Int)) = false := bne_self_eq_false _
              have hn3 : (e3 != e3) = false := bne_self_eq_false _
              go_upto_region 19 with fail
              try simp only [List.cons_append, List.nil_append]
              refine wp_region_held_drew (S := fun wz => Bk wz nb 35 #[.int .i64 xw, .string xt, .int .i64 xk, .int .u32 (xa : Int)]) (by kernel_rfl) (HX.out.head.drew) (fun hHeld => ?_)
              refine take_at (some 94) (i := 0) (v := ?_) rfl rfl (by kernel_rfl) (by kernel_rfl) (by kernel_rfl) (fun _ _ _ h => h) (Or.inl ⟨by kernel_rfl, ?_⟩) hHeld ?_
              rotate_left
              · intro wz hSw; have m3 : wz.cell? ⟨nb, 3, none⟩ = some (.int .u32 (xa : Int)) := hSw.cell 3; go_simp; try (with_reducible rfl)
              try simp only [Act.put, List.setIfInBounds_toArray, List.set_cons_zero, List.set_cons_succ, List.getElem_toArray, List.getElem_cons_succ, List.getElem_cons_zero]
              refine take_at (some 95) (i := 1) (v := ?_) rfl rfl (by kernel_rfl) (by kernel_rfl) (by kernel_rfl) (fun _ _ _ h => h) (Or.inl ⟨by kernel_rfl, ?_⟩) hHeld ?_
              rotate_left
              · intro wz hSw; have m3 : wz.cell? ⟨nb, 3, none⟩ = some (.int .u32 (xa : Int)) := hSw.cell 3; go_simp; try (with_reducible rfl)
              try simp only [Act.put, List.setIfInBounds_toArray, List.set_cons_zero, List.set_cons_succ, List.getElem_toArray, List.getElem_cons_succ, List.getElem_cons_zero]
              refine take_at (some 97) (i := 3) (v := ?_) rfl rfl (by kernel_rfl) (by kernel_rfl) (by kernel_rfl) (fun _ _ _ h => h) (Or.inl ⟨by kernel_rfl, ?_⟩) hHeld ?_
              rotate_left
              · intro wz hSw; have m3 : wz.cell? ⟨nb, 3, none⟩ = some (.int .u32 (xa : Int)) := hSw.cell 3; go_simp; try (with_reducible rfl)
              try simp only [Act.put, List.setIfInBounds_toArray, List.set_cons_zero, List.set_cons_succ, List.getElem_toArray, List.getElem_cons_succ, List.getElem_cons_zero]
              refine take_at (some 98) (i := 4) (v := ?_) rfl rfl (by kernel_rfl) (by kernel_rfl) (by kernel_rfl) (fun _ _ _ h => h) (Or.inl ⟨by kernel_rfl, ?_⟩) hHeld ?_
              rotate_left
              · intro wz hSw; have m3 : wz.cell? ⟨nb, 3, none⟩ = some (.int .u32 (xa : Int)) := hSw.cell 3; go_simp; try (with_reducible rfl)
              try simp only [Act.put, List.setIfInBounds_toArray, List.set_cons_zero, List.set_cons_succ, List.getElem_toArray, List.getElem_cons_succ, List.getElem_cons_zero]
              have HXD := Lib.hid (HX.out.on (Below.refl _ _).drew)
              refine wpAnyH_ready (rs := [2]) (by kernel_rfl) (by simp) (AllReadyH.cons rfl (fun K hK => ?_) AllReadyH.nil)
              rw [if_pos (by kernel_rfl)]
              go_simp
              refine (lg_used2 HXD.out s 1 HSZ.out).mono ?_
              rintro e y1 ⟨rfl, hy1⟩
              try rw [HEU1.out]
              try dsimp only
              refine hK.out _ _ (hy1.head) (fun hHeld => ?_)
              try simp only [Act.put, List.setIfInBounds_toArray, List.set_cons_zero, List.set_cons_succ, List.getElem_toArray, List.getElem_cons_succ, List.getElem_cons_zero]
              refine wpAnyH_ready (rs := [5]) (by kernel_rfl) (by simp) (AllReadyH.cons rfl (fun K hK => ?_) AllReadyH.nil)
              rw [if_pos (by kernel_rfl)]
              go_simp
              refine (lg_used hy1 s 1 HSZ.out).mono ?_
              rintro e y2 ⟨rfl, hy2⟩
              try rw [HEV1.out]
              try dsimp only
              refine hK.out _ _ (hy2.head) (fun hHeld => ?_)
              try simp only [Act.put, List.setIfInBounds_toArray, List.set_cons_zero, List.set_cons_succ, List.getElem_toArray, List.getElem_cons_succ, List.getElem_cons_zero]
              refine take_at (some 100) (i := 6) (v := ?_) rfl rfl (by kernel_rfl) (by kernel_rfl) (by kernel_rfl) (fun _ _ _ h => h) (Or.inl ⟨by kernel_rfl, ?_⟩) hHeld ?_
              rotate_left
              · intro wz hSw; have m3 : wz.cell? ⟨nb, 3, none⟩ = some (.int .u32 (xa : Int)) := hSw.cell 3; go_simp; try (with_reducible rfl)
              try simp only [Act.put, List.setIfInBounds_toArray, List.set_cons_zero, List.set_cons_succ, List.getElem_toArray, List.getElem_cons_succ, List.getElem_cons_zero]
              refine take_at (some 101) (i := 7) (v := ?_) rfl rfl (by kernel_rfl) (by kernel_rfl) (by kernel_rfl) (fun _ _ _ h => h) (Or.inl ⟨by kernel_rfl, ?_⟩) hHeld ?_
              rotate_left
              · intro wz hSw; have m3 : wz.cell? ⟨nb, 3, none⟩ = some (.int .u32 (xa : Int)) := hSw.cell 3; go_simp; try (with_reducible rfl)
              try simp only [Act.put, List.setIfInBounds_toArray, List.set_cons_zero, List.set_cons_succ, List.getElem_toArray, List.getElem_cons_succ, List.getElem_cons_zero]
              refine take_at (some 102) (i := 8) (v := ?_) rfl rfl (by kernel_rfl) (by kernel_rfl) (by kernel_rfl) (fun _ _ _ h => h) (Or.inl ⟨by kernel_rfl, ?_⟩) hHeld ?_
              rotate_left
              · intro wz hSw; have m3 : wz.cell? ⟨nb, 3, none⟩ = some (.int .u32 (xa : Int)) := hSw.cell 3; go_simp; try (with_reducible rfl)
              try simp only [Act.put, List.setIfInBounds_toArray, List.set_cons_zero, List.set_cons_succ, List.getElem_toArray, List.getElem_cons_succ, List.getElem_cons_zero]
              refine take_at (some 103) (i := 9) (v := ?_) rfl rfl (by kernel_rfl) (by kernel_rfl) (by kernel_rfl) (fun _ _ _ h => h) (Or.inl ⟨by kernel_rfl, ?_⟩) hHeld ?_
              rotate_left
              · intro wz hSw; have m3 : wz.cell? ⟨nb, 3, none⟩ = some (.int .u32 (xa : Int)) := hSw.cell 3; go_simp; try (with_reducible rfl)
              try simp only [Act.put, List.setIfInBounds_toArray, List.set_cons_zero, List.set_cons_succ, List.getElem_toArray, List.getElem_cons_succ, List.getElem_cons_zero]
              refine take_at (some 105) (i := 11) (v := ?_) rfl rfl (by kernel_rfl) (by kernel_rfl) (by kernel_rfl) (fun _ _ _ h => h) (Or.inl ⟨by kernel_rfl, ?_⟩) hHeld ?_
              rotate_left
              · intro wz hSw; have m3 : wz.cell? ⟨nb, 3, none⟩ = some (.int .u32 (xa : Int)) := hSw.cell 3; go_simp; try (with_reducible rfl)
              try simp only [Act.put, List.setIfInBounds_toArray, List.set_cons_zero, List.set_cons_succ, List.getElem_toArray, List.getElem_cons_succ, List.getElem_cons_zero]
              refine take_at (some 106) (i := 12) (v := ?_) rfl rfl (by kernel_rfl) (by kernel_rfl) (by kernel_rfl) (fun _ _ _ h => h) (Or.inl ⟨by kernel_rfl, ?_⟩) hHeld ?_
              rotate_left
              · intro wz hSw; have m3 : wz.cell? ⟨nb, 3, none⟩ = some (.int .u32 (xa : Int)) := hSw.cell 3; go_simp; try (with_reducible rfl)
              try simp only [Act.put, List.setIfInBounds_toArray, List.set_cons_zero, List.set_cons_succ, List.getElem_toArray, List.getElem_cons_succ, List.getElem_cons_zero]
              refine wpAnyH_ready (rs := [10]) (by kernel_rfl) (by simp) (AllReadyH.cons rfl (fun K hK => ?_) AllReadyH.nil)
              rw [if_pos (by kernel_rfl)]
              go_simp
              refine (lg_used2 hy2 s 2 HSZ.out).mono ?_
              rintro e y3 ⟨rfl, hy3⟩
              try rw [HEU2.out]
              try dsimp only
              refine hK.out _ _ (hy3.head) (fun hHeld => ?_)
              try simp only [Act.put, List.setIfInBounds_toArray, List.set_cons_zero, List.set_cons_succ, List.getElem_toArray, List.getElem_cons_succ, List.getElem_cons_zero]
              refine wpAnyH_ready (rs := [13]) (by kernel_rfl) (by simp) (AllReadyH.cons rfl (fun K hK => ?_) AllReadyH.nil)
              rw [if_pos (by kernel_rfl)]
              go_simp
              refine (lg_used hy3 s 2 HSZ.out).mono ?_
              rintro e y4 ⟨rfl, hy4⟩
              try rw [HEV2.out]
              try dsimp only
              refine hK.out _ _ (hy4.head) (fun hHeld => ?_)
              try simp only [Act.put, List.setIfInBounds_toArray, List.set_cons_zero, List.set_cons_succ, List.getElem_toArray, List.getElem_cons_succ, List.getElem_cons_zero]
              refine take_at (some 108) (i := 14) (v := ?_) rfl rfl (by kernel_rfl) (by kernel_rfl) (by kernel_rfl) (fun _ _ _ h => h) (Or.inl ⟨by kernel_rfl, ?_⟩) hHeld ?_
              rotate_left
              · intro wz hSw; have m3 : wz.cell? ⟨nb, 3, none⟩ = some (.int .u32 (xa : Int)) := hSw.cell 3; go_simp; try (with_reducible rfl)
              try simp only [Act.put, List.setIfInBounds_toArray, List.set_cons_zero, List.set_cons_succ, List.getElem_toArray, List.getElem_cons_succ, List.getElem_cons_zero]
              refine take_at (some 109) (i := 15) (v := ?_) rfl rfl (by kernel_rfl) (by kernel_rfl) (by kernel_rfl) (fun _ _ _ h => h) (Or.inl ⟨by kernel_rfl, ?_⟩) hHeld ?_
              rotate_left
              · intro wz hSw; have m3 : wz.cell? ⟨nb, 3, none⟩ = some (.int .u32 (xa : Int)) := hSw.cell 3; go_simp; try (with_reducible rfl)
              try simp only [Act.put, List.setIfInBounds_toArray, List.set_cons_zero, List.set_cons_succ, List.getElem_toArray, List.getElem_cons_succ, List.getElem_cons_zero]
              refine take_at (some 110) (i := 16) (v := ?_) rfl rfl (by kernel_rfl) (by kernel_rfl) (by kernel_rfl) (fun _ _ _ h => h) (Or.inl ⟨by kernel_rfl, ?_⟩) hHeld ?_
              rotate_left
              · intro wz hSw; have m3 : wz.cell? ⟨nb, 3, none⟩ = some (.int .u32 (xa : Int)) := hSw.cell 3; go_simp; try (with_reducible rfl)
              try simp only [Act.put, List.setIfInBounds_toArray, List.set_cons_zero, List.set_cons_succ, List.getElem_toArray, List.getElem_cons_succ, List.getElem_cons_zero]
              refine take_at (some 111) (i := 17) (v := ?_) rfl rfl (by kernel_rfl) (by kernel_rfl) (by kernel_rfl) (fun _ _ _ h => h) (Or.inl ⟨by kernel_rfl, ?_⟩) hHeld ?_
              rotate_left
              · intro wz hSw; have m3 : wz.cell? ⟨nb, 3, none⟩ = some (.int .u32 (xa : Int)) := hSw.cell 3; go_simp; try (with_reducible rfl)
              try simp only [Act.put, List.setIfInBounds_toArray, List.set_cons_zero, List.set_cons_succ, List.getElem_toArray, List.getElem_cons_succ, List.getElem_cons_zero]
              refine take_at (some 112) (i := 18) (v := ?_) rfl rfl (by kernel_rfl) (by kernel_rfl) (by kernel_rfl) (fun _ _ _ h => h) (Or.inl ⟨by kernel_rfl, ?_⟩) hHeld ?_
              rotate_left
              · intro wz hSw; have m3 : wz.cell? ⟨nb, 3, none⟩ = some (.int .u32 (xa : Int)) := hSw.cell 3; go_simp; try (with_reducible rfl)
              try simp only [Act.put, List.setIfInBounds_toArray, List.set_cons_zero, List.set_cons_succ, List.getElem_toArray, List.getElem_cons_succ, List.getElem_cons_zero]
              refine take_at (some 113) (i := 19) (v := ?_) rfl rfl (by kernel_rfl) (by kernel_rfl) (by kernel_rfl) (fun _ _ _ h => h) (Or.inl ⟨by kernel_rfl, ?_⟩) hHeld ?_
              rotate_left
              · intro wz hSw; have m3 : wz.cell? ⟨nb, 3, none⟩ = some (.int .u32 (xa : Int)) := hSw.cell 3; go_simp; try (with_reducible rfl)
              try simp only [Act.put, List.setIfInBounds_toArray, List.set_cons_zero, List.set_cons_succ, List.getElem_toArray, List.getElem_cons_succ, List.getElem_cons_zero]
              refine take_at (some 114) (i := 20) (v := ?_) rfl rfl (by kernel_rfl) (by kernel_rfl) (by kernel_rfl) (fun _ _ _ h => h) (Or.inl ⟨by kernel_rfl, ?_⟩) hHeld ?_
              rotate_left
              · intro wz hSw; have m3 : wz.cell? ⟨nb, 3, none⟩ = some (.int .u32 (xa : Int)) := hSw.cell 3; go_simp; try (with_reducible rfl)
              try simp only [Act.put, List.setIfInBounds_toArray, List.set_cons_zero, List.set_cons_succ, List.getElem_toArray, List.getElem_cons_succ, List.getElem_cons_zero]
              refine take_at (some 116) (i := 22) (v := ?_) rfl rfl (by kernel_rfl) (by kernel_rfl) (by kernel_rfl) (fun _ _ _ h => h) (Or.inl ⟨by kernel_rfl, ?_⟩) hHeld ?_
              rotate_left
              · intro wz hSw; have m3 : wz.cell? ⟨nb, 3, none⟩ = some (.int .u32 (xa : Int)) := hSw.cell 3; go_simp; try (with_reducible rfl)
              try simp only [Act.put, List.setIfInBounds_toArray, List.set_cons_zero, List.set_cons_succ, List.getElem_toArray, List.getElem_cons_succ, List.getElem_cons_zero]
              refine take_at (some 117) (i := 23) (v := ?_) rfl rfl (by kernel_rfl) (by kernel_rfl) (by kernel_rfl) (fun _ _ _ h => h) (Or.inl ⟨by kernel_rfl, ?_⟩) hHeld ?_
              rotate_left
              · intro wz hSw; have m3 : wz.cell? ⟨nb, 3, none⟩ = some (.int .u32 (xa : Int)) := hSw.cell 3; go_simp; try (with_reducible rfl)
              try simp only [Act.put, List.setIfInBounds_toArray, List.set_cons_zero, List.set_cons_succ, List.getElem_toArray, List.getElem_cons_succ, List.getElem_cons_zero]
              refine take_at (some 118) (i := 24) (v := ?_) rfl rfl (by kernel_rfl) (by kernel_rfl) (by kernel_rfl) (fun _ _ _ h => h) (Or.inl ⟨by kernel_rfl, ?_⟩) hHeld ?_
              rotate_left
              · intro wz hSw; have m3 : wz.cell? ⟨nb, 3, none⟩ = some (.int .u32 (xa : Int)) := hSw.cell 3; go_simp; try (with_reducible rfl)
              try simp only [Act.put, List.setIfInBounds_toArray, List.set_cons_zero, List.set_cons_succ, List.getElem_toArray, List.getElem_cons_succ, List.getElem_cons_zero]
              refine take_at (some 119) (i := 25) (v := ?_) rfl rfl (by kernel_rfl) (by kernel_rfl) (by kernel_rfl) (fun _ _ _ h => h) (Or.inl ⟨by kernel_rfl, ?_⟩) hHeld ?_
              rotate_left
              · intro wz hSw; have m3 : wz.cell? ⟨nb, 3, none⟩ = some (.int .u32 (xa : Int)) := hSw.cell 3; go_simp; try (with_reducible rfl)
              try simp only [Act.put, List.setIfInBounds_toArray, List.set_cons_zero, List.set_cons_succ, List.getElem_toArray, List.getElem_cons_succ, List.getElem_cons_zero]
              refine wpAnyH_ready (rs := [21]) (by kernel_rfl) (by simp) (AllReadyH.cons rfl (fun K hK => ?_) AllReadyH.nil)
              rw [if_pos (by kernel_rfl)]
              go_simp
              refine (lg_admit2 hy4 s xa HSZ.out HSM.out.2).mono ?_
              rintro e y5 ⟨rfl, hy5⟩
              try rw [HEA.out]
              try dsimp only
              refine hK.out _ _ (hy5.head) (fun hHeld => ?_)
              try simp only [Act.put, List.setIfInBounds_toArray, List.set_cons_zero, List.set_cons_succ, List.getElem_toArray, List.getElem_cons_succ, List.getElem_cons_zero]
              refine wpAnyH_ready (rs := [26]) (by kernel_rfl) (by simp) (AllReadyH.cons rfl (fun K hK => ?_) AllReadyH.nil)
              rw [if_pos (by kernel_rfl)]
              go_simp
              refine (lg_admit hy5 s xa HSZ.out HSM.out.2).mono ?_
              rintro e y6 ⟨rfl, hy6⟩
              try rw [HEA.out]
              try dsimp only
              refine hK.out _ _ (hy6.head) (fun hHeld => ?_)
              try simp only [Act.put, List.setIfInBounds_toArray, List.set_cons_zero, List.set_cons_succ, List.getElem_toArray, List.getElem_cons_succ, List.getElem_cons_zero]
              refine take_at (some 121) (i := 27) (v := ?_) rfl rfl (by kernel_rfl) (by kernel_rfl) (by kernel_rfl) (fun _ _ _ h => h) (Or.inl ⟨by kernel_rfl, ?_⟩) hHeld ?_
              rotate_left
              · intro wz hSw; have m3 : wz.cell? ⟨nb, 3, none⟩ = some (.int .u32 (xa : Int)) := hSw.cell 3; go_simp; try (with_reducible rfl)
              try simp only [Act.put, List.setIfInBounds_toArray, List.set_cons_zero, List.set_cons_succ, List.getElem_toArray, List.getElem_cons_succ, List.getElem_cons_zero]
              refine take_at (some 122) (i := 28) (v := ?_) rfl rfl (by kernel_rfl) (by kernel_rfl) (by kernel_rfl) (fun _ _ _ h => h) (Or.inl ⟨by kernel_rfl, ?_⟩) hHeld ?_
              rotate_left
              · intro wz hSw; have m3 : wz.cell? ⟨nb, 3, none⟩ = some (.int .u32 (xa : Int)) := hSw.cell 3; go_simp; try (with_reducible rfl)
              try simp only [Act.put, List.setIfInBounds_toArray, List.set_cons_zero, List.set_cons_succ, List.getElem_toArray, List.getElem_cons_succ, List.getElem_cons_zero]
              refine wpAnyH_done (by kernel_rfl) ?_ _
              refine gen_qX (fun y => Lg w tn [⟨g', mb', lo', hi', gs', V2⟩, ⟨g, mb, lo, hi, gs, U2⟩] ((nb, 35, #[.int .i64 xw, .string xt, .int .i64 xk, .int .u32 (xa : Int)]) :: [(g0, 24, #[.int .i64 a0, .int .i64 a1, .int .i64 a2, .int .i64 a3, .slice A n c])]) y) hy6 (fun yy hyy => ?_)
              clear hHeld hy1 hy2 hy3 hy4 hy5 hy6 HXD HX
              have HX := Lib.hid hyy
              clear hyy
              go_wp2
              go_roundw
              case rel => exact ⟨i + 1, U2, V2, by omega, by go_num, HE, Lib.hid (HX.out.less (fun b hb => List.mem_cons_of_mem _ hb))⟩
              case measure => simp [intOf]; omega
            · have hw2 : (xw == 2) = false := by rw [beq_eq_false_iff_ne]; exact hw
              by_cases hz : xw = 3
              · have hz2 : (xw != 3) = false := by rw [bne_eq_false_iff_eq]; exact hz
                clear hw hz
                have HX := HVN
                have HE := HUV
                obtain ⟨U2, hU2⟩ : ∃ U2, U = U2 := ⟨_, rfl⟩
                obtain ⟨V2, hV2⟩ : ∃ V2, V = V2 := ⟨_, rfl⟩
                rw [hU2, hV2] at HX HE
                clear hU2 hV2
                go_upto_region 19 with fail
                clear d0 d1 d2
                obtain ⟨n1, h1⟩ : ∃ n1, U2 s 1 = n1 := ⟨_, rfl⟩
                obtain ⟨n2, h2⟩ : ∃ n2, U2 s 2 = n2 := ⟨_, rfl⟩
                have HEU1 := Lib.hid h1
                have HEU2 := Lib.hid h2
                have HEV1 := Lib.hid ((HE.out 1).trans h1)
                have HEV2 := Lib.hid ((HE.out 2).trans h2)
                obtain ⟨e3, h3⟩ : ∃ e3, adI (gtF tn s) xa = e3 := ⟨_, rfl⟩
                have HEA := Lib.hid h3
                clear h1 h2 h3
                have hn1 : ((n1 : Int) != (n1 : Int)) = false := bne_self_eq_false _
                have hn2 : ((n2 : Int) != (n2 : Int)) = false := bne_self_eq_false _
                have hn3 : (e3 != e3) = false := bne_self_eq_false _
                go_upto_region 19 with fail
                try simp only [List.cons_append, List.nil_append]
                refine wp_region_held_drew (S := fun wz => Bk wz nb 35 #[.int .i64 xw, .string xt, .int .i64 xk, .int .u32 (xa : Int)]) (by kernel_rfl) (HX.out.head.drew) (fun hHeld => ?_)
                refine take_at (some 94) (i := 0) (v := ?_) rfl rfl (by kernel_rfl) (by kernel_rfl) (by kernel_rfl) (fun _ _ _ h => h) (Or.inl ⟨by kernel_rfl, ?_⟩) hHeld ?_
                rotate_left
                · intro wz hSw; have m3 : wz.cell? ⟨nb, 3, none⟩ = some (.int .u32 (xa : Int)) := hSw.cell 3; go_simp; try (with_reducible rfl)
                try simp only [Act.put, List.setIfInBounds_toArray, List.set_cons_zero, List.set_cons_succ, List.getElem_toArray, List.getElem_cons_succ, List.getElem_cons_zero]
                refine take_at (some 95) (i := 1) (v := ?_) rfl rfl (by kernel_rfl) (by kernel_rfl) (by kernel_rfl) (fun _ _ _ h => h) (Or.inl ⟨by kernel_rfl, ?_⟩) hHeld ?_
                rotate_left
                · intro wz hSw; have m3 : wz.cell? ⟨nb, 3, none⟩ = some (.int .u32 (xa : Int)) := hSw.cell 3; go_simp; try (with_reducible rfl)
                try simp only [Act.put, List.setIfInBounds_toArray, List.set_cons_zero, List.set_cons_succ, List.getElem_toArray, List.getElem_cons_succ, List.getElem_cons_zero]
                refine take_at (some 97) (i := 3) (v := ?_) rfl rfl (by kernel_rfl) (by kernel_rfl) (by kernel_rfl) (fun _ _ _ h => h) (Or.inl ⟨by kernel_rfl, ?_⟩) hHeld ?_
                rotate_left
                · intro wz hSw; have m3 : wz.cell? ⟨nb, 3, none⟩ = some (.int .u32 (xa : Int)) := hSw.cell 3; go_simp; try (with_reducible rfl)
                try simp only [Act.put, List.setIfInBounds_toArray, List.set_cons_zero, List.set_cons_succ, List.getElem_toArray, List.getElem_cons_succ, List.getElem_cons_zero]
                refine take_at (some 98) (i := 4) (v := ?_) rfl rfl (by kernel_rfl) (by kernel_rfl) (by kernel_rfl) (fun _ _ _ h => h) (Or.inl ⟨by kernel_rfl, ?_⟩) hHeld ?_
                rotate_left
                · intro wz hSw; have m3 : wz.cell? ⟨nb, 3, none⟩ = some (.int .u32 (xa : Int)) := hSw.cell 3; go_simp; try (with_reducible rfl)
                try simp only [Act.put, List.setIfInBounds_toArray, List.set_cons_zero, List.set_cons_succ, List.getElem_toArray, List.getElem_cons_succ, List.getElem_cons_zero]
                have HXD := Lib.hid (HX.out.on (Below.refl _ _).drew)
                refine wpAnyH_ready (rs := [2]) (by kernel_rfl) (by simp) (AllReadyH.cons rfl (fun K hK => ?_) AllReadyH.nil)
                rw [if_pos (by kernel_rfl)]
                go_simp
                refine (lg_used2 HXD.out s 1 HSZ.out).mono ?_
                rintro e y1 ⟨rfl, hy1⟩
                try rw [HEU1.out]
                try dsimp only
                refine hK.out _ _ (hy1.head) (fun hHeld => ?_)
                try simp only [Act.put, List.setIfInBounds_toArray, List.set_cons_zero, List.set_cons_succ, List.getElem_toArray, List.getElem_cons_succ, List.getElem_cons_zero]
                refine wpAnyH_ready (rs := [5]) (by kernel_rfl) (by simp) (AllReadyH.cons rfl (fun K hK => ?_) AllReadyH.nil)
                rw [if_pos (by kernel_rfl)]
                go_simp
                refine (lg_used hy1 s 1 HSZ.out).mono ?_
                rintro e y2 ⟨rfl, hy2⟩
                try rw [HEV1.out]
                try dsimp only
                refine hK.out _ _ (hy2.head) (fun hHeld => ?_)
                try simp only [Act.put, List.setIfInBounds_toArray, List.set_cons_zero, List.set_cons_succ, List.getElem_toArray, List.getElem_cons_succ, List.getElem_cons_zero]
                refine take_at (some 100) (i := 6) (v := ?_) rfl rfl (by kernel_rfl) (by kernel_rfl) (by kernel_rfl) (fun _ _ _ h => h) (Or.inl ⟨by kernel_rfl, ?_⟩) hHeld ?_
                rotate_left
                · intro wz hSw; have m3 : wz.cell? ⟨nb, 3, none⟩ = some (.int .u32 (xa : Int)) := hSw.cell 3; go_simp; try (with_reducible rfl)
                try simp only [Act.put, List.setIfInBounds_toArray, List.set_cons_zero, List.set_cons_succ, List.getElem_toArray, List.getElem_cons_succ, List.getElem_cons_zero]
                refine take_at (some 101) (i := 7) (v := ?_) rfl rfl (by kernel_rfl) (by kernel_rfl) (by kernel_rfl) (fun _ _ _ h => h) (Or.inl ⟨by kernel_rfl, ?_⟩) hHeld ?_
                rotate_left
                · intro wz hSw; have m3 : wz.cell? ⟨nb, 3, none⟩ = some (.int .u32 (xa : Int)) := hSw.cell 3; go_simp; try (with_reducible rfl)
                try simp only [Act.put, List.setIfInBounds_toArray, List.set_cons_zero, List.set_cons_succ, List.getElem_toArray, List.getElem_cons_succ, List.getElem_cons_zero]
                refine take_at (some 102) (i := 8) (v := ?_) rfl rfl (by kernel_rfl) (by kernel_rfl) (by kernel_rfl) (fun _ _ _ h => h) (Or.inl ⟨by kernel_rfl, ?_⟩) hHeld ?_
                rotate_left
                · intro wz hSw; have m3 : wz.cell? ⟨nb, 3, none⟩ = some (.int .u32 (xa : Int)) := hSw.cell 3; go_simp; try (with_reducible rfl)
                try simp only [Act.put, List.setIfInBounds_toArray, List.set_cons_zero, List.set_cons_succ, List.getElem_toArray, List.getElem_cons_succ, List.getElem_cons_zero]
                refine take_at (some 103) (i := 9) (v := ?_) rfl rfl (by kernel_rfl) (by kernel_rfl) (by kernel_rfl) (fun _ _ _ h => h) (Or.inl ⟨by kernel_rfl, ?_⟩) hHeld ?_
                rotate_left
                · intro wz hSw; have m3 : wz.cell? ⟨nb, 3, none⟩ = some (.int .u32 (xa : Int)) := hSw.cell 3; go_simp; try (with_reducible rfl)
                try simp only [Act.put, List.setIfInBounds_toArray, List.set_cons_zero, List.set_cons_succ, List.getElem_toArray, List.getElem_cons_succ, List.getElem_cons_zero]
                refine take_at (some 105) (i := 11) (v := ?_) rfl rfl (by kernel_rfl) (by kernel_rfl) (by kernel_rfl) (fun _ _ _ h => h) (Or.inl ⟨by kernel_rfl, ?_⟩) hHeld ?_
                rotate_left
                · intro wz hSw; have m3 : wz.cell? ⟨nb, 3, none⟩ = some (.int .u32 (xa : Int)) := hSw.cell 3; go_simp; try (with_reducible rfl)
                try simp only [Act.put, List.setIfInBounds_toArray, List.set_cons_zero, List.set_cons_succ, List.getElem_toArray, List.getElem_cons_succ, List.getElem_cons_zero]
                refine take_at (some 106) (i := 12) (v := ?_) rfl rfl (by kernel_rfl) (by kernel_rfl) (by kernel_rfl) (fun _ _ _ h => h) (Or.inl ⟨by kernel_rfl, ?_⟩) hHeld ?_
                rotate_left
                · intro wz hSw; have m3 : wz.cell? ⟨nb, 3, none⟩ = some (.int .u32 (xa : Int)) := hSw.cell 3; go_simp; try (with_reducible rfl)
                try simp only [Act.put, List.setIfInBounds_toArray, List.set_cons_zero, List.set_cons_succ, List.getElem_toArray, List.getElem_cons_succ, List.getElem_cons_zero]
                refine wpAnyH_ready (rs := [10]) (by kernel_rfl) (by simp) (AllReadyH.cons rfl (fun K hK => ?_) AllReadyH.nil)
                rw [if_pos (by kernel_rfl)]
                go_simp
                refine (lg_used2 hy2 s 2 HSZ.out).mono ?_
                rintro e y3 ⟨rfl, hy3⟩
                try rw [HEU2.out]
                try dsimp only
                refine hK.out _ _ (hy3.head) (fun hHeld => ?_)
                try simp only [Act.put, List.setIfInBounds_toArray, List.set_cons_zero, List.set_cons_succ, List.getElem_toArray, List.getElem_cons_succ, List.getElem_cons_zero]
                refine wpAnyH_ready (rs := [13]) (by kernel_rfl) (by simp) (AllReadyH.cons rfl (fun K hK => ?_) AllReadyH.nil)
                rw [if_pos (by kernel_rfl)]
                go_simp
                refine (lg_used hy3 s 2 HSZ.out).mono ?_
                rintro e y4 ⟨rfl, hy4⟩
                try rw [HEV2.out]
                try dsimp only
                refine hK.out _ _ (hy4.head) (fun hHeld => ?_)
                try simp only [Act.put, List.setIfInBounds_toArray, List.set_cons_zero, List.set_cons_succ, List.getElem_toArray, List.getElem_cons_succ, List.getElem_cons_zero]
                refine take_at (some 108) (i := 14) (v := ?_) rfl rfl (by kernel_rfl) (by kernel_rfl) (by kernel_rfl) (fun _ _ _ h => h) (Or.inl ⟨by kernel_rfl, ?_⟩) hHeld ?_
                rotate_left
                · intro wz hSw; have m3 : wz.cell? ⟨nb, 3, none⟩ = some (.int .u32 (xa : Int)) := hSw.cell 3; go_simp; try (with_reducible rfl)
                try simp only [Act.put, List.setIfInBounds_toArray, List.set_cons_zero, List.set_cons_succ, List.getElem_toArray, List.getElem_cons_succ, List.getElem_cons_zero]
                refine take_at (some 109) (i := 15) (v := ?_) rfl rfl (by kernel_rfl) (by kernel_rfl) (by kernel_rfl) (fun _ _ _ h => h) (Or.inl ⟨by kernel_rfl, ?_⟩) hHeld ?_
                rotate_left
                · intro wz hSw; have m3 : wz.cell? ⟨nb, 3, none⟩ = some (.int .u32 (xa : Int)) := hSw.cell 3; go_simp; try (with_reducible rfl)
                try simp only [Act.put, List.setIfInBounds_toArray, List.set_cons_zero, List.set_cons_succ, List.getElem_toArray, List.getElem_cons_succ, List.getElem_cons_zero]
                refine take_at (some 110) (i := 16) (v := ?_) rfl rfl (by kernel_rfl) (by kernel_rfl) (by kernel_rfl) (fun _ _ _ h => h) (Or.inl ⟨by kernel_rfl, ?_⟩) hHeld ?_
                rotate_left
                · intro wz hSw; have m3 : wz.cell? ⟨nb, 3, none⟩ = some (.int .u32 (xa : Int)) := hSw.cell 3; go_simp; try (with_reducible rfl)
                try simp only [Act.put, List.setIfInBounds_toArray, List.set_cons_zero, List.set_cons_succ, List.getElem_toArray, List.getElem_cons_succ, List.getElem_cons_zero]
                refine take_at (some 111) (i := 17) (v := ?_) rfl rfl (by kernel_rfl) (by kernel_rfl) (by kernel_rfl) (fun _ _ _ h => h) (Or.inl ⟨by kernel_rfl, ?_⟩) hHeld ?_
                rotate_left
                · intro wz hSw; have m3 : wz.cell? ⟨nb, 3, none⟩ = some (.int .u32 (xa : Int)) := hSw.cell 3; go_simp; try (with_reducible rfl)
                try simp only [Act.put, List.setIfInBounds_toArray, List.set_cons_zero, List.set_cons_succ, List.getElem_toArray, List.getElem_cons_succ, List.getElem_cons_zero]
                refine take_at (some 112) (i := 18) (v := ?_) rfl rfl (by kernel_rfl) (by kernel_rfl) (by kernel_rfl) (fun _ _ _ h => h) (Or.inl ⟨by kernel_rfl, ?_⟩) hHeld ?_
                rotate_left
                · intro wz hSw; have m3 : wz.cell? ⟨nb, 3, none⟩ = some (.int .u32 (xa : Int)) := hSw.cell 3; go_simp; try (with_reducible rfl)
                try simp only [Act.put, List.setIfInBounds_toArray, List.set_cons_zero, List.set_cons_succ, List.getElem_toArray, List.getElem_cons_succ, List.getElem_cons_zero]
                refine take_at (some 113) (i := 19) (v := ?_) rfl rfl (by kernel_rfl) (by kernel_rfl) (by kernel_rfl) (fun _ _ _ h => h) (Or.inl ⟨by kernel_rfl, ?_⟩) hHeld ?_
                rotate_left
                · intro wz hSw; have m3 : wz.cell? ⟨nb, 3, none⟩ = some (.int .u32 (xa : Int)) := hSw.cell 3; go_simp; try (with_reducible rfl)
                try simp only [Act.put, List.setIfInBounds_toArray, List.set_cons_zero, List.set_cons_succ, List.getElem_toArray, List.getElem_cons_succ, List.getElem_cons_zero]
                refine take_at (some 114) (i := 20) (v := ?_) rfl rfl (by kernel_rfl) (by kernel_rfl) (by kernel_rfl) (fun _ _ _ h => h) (Or.inl ⟨by kernel_rfl, ?_⟩) hHeld ?_
                rotate_left
                · intro wz hSw; have m3 : wz.cell? ⟨nb, 3, none⟩ = some (.int .u32 (xa : Int)) := hSw.cell 3; go_simp; try (with_reducible rfl)
                try simp only [Act.put, List.setIfInBounds_toArray, List.set_cons_zero, List.set_cons_succ, List.getElem_toArray, List.getElem_cons_succ, List.getElem_cons_zero]
                refine take_at (some 116) (i := 22) (v := ?_) rfl rfl (by kernel_rfl) (by kernel_rfl) (by kernel_rfl) (fun _ _ _ h => h) (Or.inl ⟨by kernel_rfl, ?_⟩) hHeld ?_
                rotate_left
                · intro wz hSw; have m3 : wz.cell? ⟨nb, 3, none⟩ = some (.int .u32 (xa : Int)) := hSw.cell 3; go_simp; try (with_reducible rfl)
                try simp only [Act.put, List.setIfInBounds_toArray, List.set_cons_zero, List.set_cons_succ, List.getElem_toArray, List.getElem_cons_succ, List.getElem_cons_zero]
                refine take_at (some 117) (i := 23) (v := ?_) rfl rfl (by kernel_rfl) (by kernel_rfl) (by kernel_rfl) (fun _ _ _ h => h) (Or.inl ⟨by kernel_rfl, ?_⟩) hHeld ?_
                rotate_left
                · intro wz hSw; have m3 : wz.cell? ⟨nb, 3, none⟩ = some (.int .u32 (xa : Int)) := hSw.cell 3; go_simp; try (with_reducible rfl)
                try simp only [Act.put, List.setIfInBounds_toArray, List.set_cons_zero, List.set_cons_succ, List.getElem_toArray, List.getElem_cons_succ, List.getElem_cons_zero]
                refine take_at (some 118) (i := 24) (v := ?_) rfl rfl (by kernel_rfl) (by kernel_rfl) (by kernel_rfl) (fun _ _ _ h => h) (Or.inl ⟨by kernel_rfl, ?_⟩) hHeld ?_
                rotate_left
                · intro wz hSw; have m3 : wz.cell? ⟨nb, 3, none⟩ = some (.int .u32 (xa : Int)) := hSw.cell 3; go_simp; try (with_reducible rfl)
                try simp only [Act.put, List.setIfInBounds_toArray, List.set_cons_zero, List.set_cons_succ, List.getElem_toArray, List.getElem_cons_succ, List.getElem_cons_zero]
                refine take_at (some 119) (i := 25) (v := ?_) rfl rfl (by kernel_rfl) (by kernel_rfl) (by kernel_rfl) (fun _ _ _ h => h) (Or.inl ⟨by kernel_rfl, ?_⟩) hHeld ?_
                rotate_left
                · intro wz hSw; have m3 : wz.cell? ⟨nb, 3, none⟩ = some (.int .u32 (xa : Int)) := hSw.cell 3; go_simp; try (with_reducible rfl)
                try simp only [Act.put, List.setIfInBounds_toArray, List.set_cons_zero, List.set_cons_succ, List.getElem_toArray, List.getElem_cons_succ, List.getElem_cons_zero]
                refine wpAnyH_ready (rs := [21]) (by kernel_rfl) (by simp) (AllReadyH.cons rfl (fun K hK => ?_) AllReadyH.nil)
                rw [if_pos (by kernel_rfl)]
                go_simp
                refine (lg_admit2 hy4 s xa HSZ.out HSM.out.2).mono ?_
                rintro e y5 ⟨rfl, hy5⟩
                try rw [HEA.out]
                try dsimp only
                refine hK.out _ _ (hy5.head) (fun hHeld => ?_)
                try simp only [Act.put, List.setIfInBounds_toArray, List.set_cons_zero, List.set_cons_succ, List.getElem_toArray, List.getElem_cons_succ, List.getElem_cons_zero]
                refine wpAnyH_ready (rs := [26]) (by kernel_rfl) (by simp) (AllReadyH.cons rfl (fun K hK => ?_) AllReadyH.nil)
                rw [if_pos (by kernel_rfl)]
                go_simp
                refine (lg_admit hy5 s xa HSZ.out HSM.out.2).mono ?_
                rintro e y6 ⟨rfl, hy6⟩
                try rw [HEA.out]
                try dsimp only
                refine hK.out _ _ (hy6.head) (fun hHeld => ?_)
                try simp only [Act.put, List.setIfInBounds_toArray, List.set_cons_zero, List.set_cons_succ, List.getElem_toArray, List.getElem_cons_succ, List.getElem_cons_zero]
                refine take_at (some 121) (i := 27) (v := ?_) rfl rfl (by kernel_rfl) (by kernel_rfl) (by kernel_rfl) (fun _ _ _ h => h) (Or.inl ⟨by kernel_rfl, ?_⟩) hHeld ?_
                rotate_left
                · intro wz hSw; have m3 : wz.cell? ⟨nb, 3, none⟩ = some (.int .u32 (xa : Int)) := hSw.cell 3; go_simp; try (with_reducible rfl)
                try simp only [Act.put, List.setIfInBounds_toArray, List.set_cons_zero, List.set_cons_succ, List.getElem_toArray, List.getElem_cons_succ, List.getElem_cons_zero]
                refine take_at (some 122) (i := 28) (v := ?_) rfl rfl (by kernel_rfl) (by kernel_rfl) (by kernel_rfl) (fun _ _ _ h => h) (Or.inl ⟨by kernel_rfl, ?_⟩) hHeld ?_
                rotate_left
                · intro wz hSw; have m3 : wz.cell? ⟨nb, 3, none⟩ = some (.int .u32 (xa : Int)) := hSw.cell 3; go_simp; try (with_reducible rfl)
                try simp only [Act.put, List.setIfInBounds_toArray, List.set_cons_zero, List.set_cons_succ, List.getElem_toArray, List.getElem_cons_succ, List.getElem_cons_zero]
                refine wpAnyH_done (by kernel_rfl) ?_ _
                refine gen_qX (fun y => Lg w tn [⟨g', mb', lo', hi', gs', V2⟩, ⟨g, mb, lo, hi, gs, U2⟩] ((nb, 35, #[.int .i64 xw, .string xt, .int .i64 xk, .int .u32 (xa : Int)]) :: [(g0, 24, #[.int .i64 a0, .int .i64 a1, .int .i64 a2, .int .i64 a3, .slice A n c])]) y) hy6 (fun yy hyy => ?_)
                clear hHeld hy1 hy2 hy3 hy4 hy5 hy6 HXD HX
                have HX := Lib.hid hyy
                clear hyy
                go_wp2
                go_roundw
                case rel => exact ⟨i + 1, U2, V2, by omega, by go_num, HE, Lib.hid (HX.out.less (fun b hb => List.mem_cons_of_mem _ hb))⟩
                case measure => simp [intOf]; omega
              · have hz2 : (xw != 3) = true := by rw [bne_iff_ne]; exact hz
                clear hw hz
                obtain ⟨E, hE⟩ : ∃ E, tkI (gtF tn xt) (U xt xk) xk = E := ⟨_, rfl⟩
                have HEU := Lib.hid hE
                clear hE
                obtain ⟨U2, hU2⟩ : ∃ U2, tkU (gtF tn xt) U xt xk = U2 := ⟨_, rfl⟩
                obtain ⟨V2, hV2⟩ : ∃ V2, V = V2 := ⟨_, rfl⟩
                rw [hV2] at HUV HVN
                clear hV2
                have HE := Lib.hid (show ∀ j, V2 s j = U2 s j from fun j => by rw [← hU2, HUV.out j]; exact (take_far HXS.out xk j).symm)
                have HU2 := Lib.hid hU2
                clear hU2
                have HC1 := Lib.hid (show ∀ u, Lg w tn [⟨g', mb', lo', hi', gs', V2⟩, ⟨g, mb, lo, hi, gs, U⟩] ((nb, 35, #[.int .i64 xw, .string xt, .int .i64 xk, .int .u32 (xa : Int)]) :: [(g0, 24, #[.int .i64 a0, .int .i64 a1, .int .i64 a2, .int .i64 a3, .slice A n c])]) u → Calls Try.prog 18 #[.pointer (some ⟨g, 0, none⟩), .string xt, .int .i64 xk] u fun e u' => e = .returned (.int .i64 E) ∧ Lg w tn [⟨g', mb', lo', hi', gs', V2⟩, ⟨g, mb, lo, hi, gs, U2⟩] ((nb, 35, #[.int .i64 xw, .string xt, .int .i64 xk, .int .u32 (xa : Int)]) :: [(g0, 24, #[.int .i64 a0, .int .i64 a1, .int .i64 a2, .int .i64 a3, .slice A n c])]) u' from fun u hu => by have := lg_take2 hu xt xk HSM.out.1; rwa [HEU.out, HU2.out] at this)
                go_upto_region 19 with (go_at_call 18; (with_reducible refine (HC1.out _ HVN.out).mono ?_); rintro e u6 ⟨rfl, hv⟩; have HX := Lib.hid hv; clear hv d0 d1 d2)
                obtain ⟨n1, h1⟩ : ∃ n1, U2 s 1 = n1 := ⟨_, rfl⟩
                obtain ⟨n2, h2⟩ : ∃ n2, U2 s 2 = n2 := ⟨_, rfl⟩
                have HEU1 := Lib.hid h1
                have HEU2 := Lib.hid h2
                have HEV1 := Lib.hid ((HE.out 1).trans h1)
                have HEV2 := Lib.hid ((HE.out 2).trans h2)
                obtain ⟨e3, h3⟩ : ∃ e3, adI (gtF tn s) xa = e3 := ⟨_, rfl⟩
                have HEA := Lib.hid h3
                clear h1 h2 h3
                have hn1 : ((n1 : Int) != (n1 : Int)) = false := bne_self_eq_false _
                have hn2 : ((n2 : Int) != (n2 : Int)) = false := bne_self_eq_false _
                have hn3 : (e3 != e3) = false := bne_self_eq_false _
                go_upto_region 19 with fail
                try simp only [List.cons_append, List.nil_append]
                refine wp_region_held_drew (S := fun wz => Bk wz nb 35 #[.int .i64 xw, .string xt, .int .i64 xk, .int .u32 (xa : Int)]) (by kernel_rfl) (HX.out.head.drew) (fun hHeld => ?_)
                refine take_at (some 94) (i := 0) (v := ?_) rfl rfl (by kernel_rfl) (by kernel_rfl) (by kernel_rfl) (fun _ _ _ h => h) (Or.inl ⟨by kernel_rfl, ?_⟩) hHeld ?_
                rotate_left
                · intro wz hSw; have m3 : wz.cell? ⟨nb, 3, none⟩ = some (.int .u32 (xa : Int)) := hSw.cell 3; go_simp; try (with_reducible rfl)
                try simp only [Act.put, List.setIfInBounds_toArray, List.set_cons_zero, List.set_cons_succ, List.getElem_toArray, List.getElem_cons_succ, List.getElem_cons_zero]
                refine take_at (some 95) (i := 1) (v := ?_) rfl rfl (by kernel_rfl) (by kernel_rfl) (by kernel_rfl) (fun _ _ _ h => h) (Or.inl ⟨by kernel_rfl, ?_⟩) hHeld ?_
                rotate_left
                · intro wz hSw; have m3 : wz.cell? ⟨nb, 3, none⟩ = some (.int .u32 (xa : Int)) := hSw.cell 3; go_simp; try (with_reducible rfl)
                try simp only [Act.put, List.setIfInBounds_toArray, List.set_cons_zero, List.set_cons_succ, List.getElem_toArray, List.getElem_cons_succ, List.getElem_cons_zero]
                refine take_at (some 97) (i := 3) (v := ?_) rfl rfl (by kernel_rfl) (by kernel_rfl) (by kernel_rfl) (fun _ _ _ h => h) (Or.inl ⟨by kernel_rfl, ?_⟩) hHeld ?_
                rotate_left
                · intro wz hSw; have m3 : wz.cell? ⟨nb, 3, none⟩ = some (.int .u32 (xa : Int)) := hSw.cell 3; go_simp; try (with_reducible rfl)
                try simp only [Act.put, List.setIfInBounds_toArray, List.set_cons_zero, List.set_cons_succ, List.getElem_toArray, List.getElem_cons_succ, List.getElem_cons_zero]
                refine take_at (some 98) (i := 4) (v := ?_) rfl rfl (by kernel_rfl) (by kernel_rfl) (by kernel_rfl) (fun _ _ _ h => h) (Or.inl ⟨by kernel_rfl, ?_⟩) hHeld ?_
                rotate_left
                · intro wz hSw; have m3 : wz.cell? ⟨nb, 3, none⟩ = some (.int .u32 (xa : Int)) := hSw.cell 3; go_simp; try (with_reducible rfl)
                try simp only [Act.put, List.setIfInBounds_toArray, List.set_cons_zero, List.set_cons_succ, List.getElem_toArray, List.getElem_cons_succ, List.getElem_cons_zero]
                have HXD := Lib.hid (HX.out.on (Below.refl _ _).drew)
                refine wpAnyH_ready (rs := [2]) (by kernel_rfl) (by simp) (AllReadyH.cons rfl (fun K hK => ?_) AllReadyH.nil)
                rw [if_pos (by kernel_rfl)]
                go_simp
                refine (lg_used2 HXD.out s 1 HSZ.out).mono ?_
                rintro e y1 ⟨rfl, hy1⟩
                try rw [HEU1.out]
                try dsimp only
                refine hK.out _ _ (hy1.head) (fun hHeld => ?_)
                try simp only [Act.put, List.setIfInBounds_toArray, List.set_cons_zero, List.set_cons_succ, List.getElem_toArray, List.getElem_cons_succ, List.getElem_cons_zero]
                refine wpAnyH_ready (rs := [5]) (by kernel_rfl) (by simp) (AllReadyH.cons rfl (fun K hK => ?_) AllReadyH.nil)
                rw [if_pos (by kernel_rfl)]
                go_simp
                refine (lg_used hy1 s 1 HSZ.out).mono ?_
                rintro e y2 ⟨rfl, hy2⟩
                try rw [HEV1.out]
                try dsimp only
                refine hK.out _ _ (hy2.head) (fun hHeld => ?_)
                try simp only [Act.put, List.setIfInBounds_toArray, List.set_cons_zero, List.set_cons_succ, List.getElem_toArray, List.getElem_cons_succ, List.getElem_cons_zero]
                refine take_at (some 100) (i := 6) (v := ?_) rfl rfl (by kernel_rfl) (by kernel_rfl) (by kernel_rfl) (fun _ _ _ h => h) (Or.inl ⟨by kernel_rfl, ?_⟩) hHeld ?_
                rotate_left
                · intro wz hSw; have m3 : wz.cell? ⟨nb, 3, none⟩ = some (.int .u32 (xa : Int)) := hSw.cell 3; go_simp; try (with_reducible rfl)
                try simp only [Act.put, List.setIfInBounds_toArray, List.set_cons_zero, List.set_cons_succ, List.getElem_toArray, List.getElem_cons_succ, List.getElem_cons_zero]
                refine take_at (some 101) (i := 7) (v := ?_) rfl rfl (by kernel_rfl) (by kernel_rfl) (by kernel_rfl) (fun _ _ _ h => h) (Or.inl ⟨by kernel_rfl, ?_⟩) hHeld ?_
                rotate_left
                · intro wz hSw; have m3 : wz.cell? ⟨nb, 3, none⟩ = some (.int .u32 (xa : Int)) := hSw.cell 3; go_simp; try (with_reducible rfl)
                try simp only [Act.put, List.setIfInBounds_toArray, List.set_cons_zero, List.set_cons_succ, List.getElem_toArray, List.getElem_cons_succ, List.getElem_cons_zero]
                refine take_at (some 102) (i := 8) (v := ?_) rfl rfl (by kernel_rfl) (by kernel_rfl) (by kernel_rfl) (fun _ _ _ h => h) (Or.inl ⟨by kernel_rfl, ?_⟩) hHeld ?_
                rotate_left
                · intro wz hSw; have m3 : wz.cell? ⟨nb, 3, none⟩ = some (.int .u32 (xa : Int)) := hSw.cell 3; go_simp; try (with_reducible rfl)
                try simp only [Act.put, List.setIfInBounds_toArray, List.set_cons_zero, List.set_cons_succ, List.getElem_toArray, List.getElem_cons_succ, List.getElem_cons_zero]
                refine take_at (some 103) (i := 9) (v := ?_) rfl rfl (by kernel_rfl) (by kernel_rfl) (by kernel_rfl) (fun _ _ _ h => h) (Or.inl ⟨by kernel_rfl, ?_⟩) hHeld ?_
                rotate_left
                · intro wz hSw; have m3 : wz.cell? ⟨nb, 3, none⟩ = some (.int .u32 (xa : Int)) := hSw.cell 3; go_simp; try (with_reducible rfl)
                try simp only [Act.put, List.setIfInBounds_toArray, List.set_cons_zero, List.set_cons_succ, List.getElem_toArray, List.getElem_cons_succ, List.getElem_cons_zero]
                refine take_at (some 105) (i := 11) (v := ?_) rfl rfl (by kernel_rfl) (by kernel_rfl) (by kernel_rfl) (fun _ _ _ h => h) (Or.inl ⟨by kernel_rfl, ?_⟩) hHeld ?_
                rotate_left
                · intro wz hSw; have m3 : wz.cell? ⟨nb, 3, none⟩ = some (.int .u32 (xa : Int)) := hSw.cell 3; go_simp; try (with_reducible rfl)
                try simp only [Act.put, List.setIfInBounds_toArray, List.set_cons_zero, List.set_cons_succ, List.getElem_toArray, List.getElem_cons_succ, List.getElem_cons_zero]
                refine take_at (some 106) (i := 12) (v := ?_) rfl rfl (by kernel_rfl) (by kernel_rfl) (by kernel_rfl) (fun _ _ _ h => h) (Or.inl ⟨by kernel_rfl, ?_⟩) hHeld ?_
                rotate_left
                · intro wz hSw; have m3 : wz.cell? ⟨nb, 3, none⟩ = some (.int .u32 (xa : Int)) := hSw.cell 3; go_simp; try (with_reducible rfl)
                try simp only [Act.put, List.setIfInBounds_toArray, List.set_cons_zero, List.set_cons_succ, List.getElem_toArray, List.getElem_cons_succ, List.getElem_cons_zero]
                refine wpAnyH_ready (rs := [10]) (by kernel_rfl) (by simp) (AllReadyH.cons rfl (fun K hK => ?_) AllReadyH.nil)
                rw [if_pos (by kernel_rfl)]
                go_simp
                refine (lg_used2 hy2 s 2 HSZ.out).mono ?_
                rintro e y3 ⟨rfl, hy3⟩
                try rw [HEU2.out]
                try dsimp only
                refine hK.out _ _ (hy3.head) (fun hHeld => ?_)
                try simp only [Act.put, List.setIfInBounds_toArray, List.set_cons_zero, List.set_cons_succ, List.getElem_toArray, List.getElem_cons_succ, List.getElem_cons_zero]
                refine wpAnyH_ready (rs := [13]) (by kernel_rfl) (by simp) (AllReadyH.cons rfl (fun K hK => ?_) AllReadyH.nil)
                rw [if_pos (by kernel_rfl)]
                go_simp
                refine (lg_used hy3 s 2 HSZ.out).mono ?_
                rintro e y4 ⟨rfl, hy4⟩
                try rw [HEV2.out]
                try dsimp only
                refine hK.out _ _ (hy4.head) (fun hHeld => ?_)
                try simp only [Act.put, List.setIfInBounds_toArray, List.set_cons_zero, List.set_cons_succ, List.getElem_toArray, List.getElem_cons_succ, List.getElem_cons_zero]
                refine take_at (some 108) (i := 14) (v := ?_) rfl rfl (by kernel_rfl) (by kernel_rfl) (by kernel_rfl) (fun _ _ _ h => h) (Or.inl ⟨by kernel_rfl, ?_⟩) hHeld ?_
                rotate_left
                · intro wz hSw; have m3 : wz.cell? ⟨nb, 3, none⟩ = some (.int .u32 (xa : Int)) := hSw.cell 3; go_simp; try (with_reducible rfl)
                try simp only [Act.put, List.setIfInBounds_toArray, List.set_cons_zero, List.set_cons_succ, List.getElem_toArray, List.getElem_cons_succ, List.getElem_cons_zero]
                refine take_at (some 109) (i := 15) (v := ?_) rfl rfl (by kernel_rfl) (by kernel_rfl) (by kernel_rfl) (fun _ _ _ h => h) (Or.inl ⟨by kernel_rfl, ?_⟩) hHeld ?_
                rotate_left
                · intro wz hSw; have m3 : wz.cell? ⟨nb, 3, none⟩ = some (.int .u32 (xa : Int)) := hSw.cell 3; go_simp; try (with_reducible rfl)
                try simp only [Act.put, List.setIfInBounds_toArray, List.set_cons_zero, List.set_cons_succ, List.getElem_toArray, List.getElem_cons_succ, List.getElem_cons_zero]
                refine take_at (some 110) (i := 16) (v := ?_) rfl rfl (by kernel_rfl) (by kernel_rfl) (by kernel_rfl) (fun _ _ _ h => h) (Or.inl ⟨by kernel_rfl, ?_⟩) hHeld ?_
                rotate_left
                · intro wz hSw; have m3 : wz.cell? ⟨nb, 3, none⟩ = some (.int .u32 (xa : Int)) := hSw.cell 3; go_simp; try (with_reducible rfl)
                try simp only [Act.put, List.setIfInBounds_toArray, List.set_cons_zero, List.set_cons_succ, List.getElem_toArray, List.getElem_cons_succ, List.getElem_cons_zero]
                refine take_at (some 111) (i := 17) (v := ?_) rfl rfl (by kernel_rfl) (by kernel_rfl) (by kernel_rfl) (fun _ _ _ h => h) (Or.inl ⟨by kernel_rfl, ?_⟩) hHeld ?_
                rotate_left
                · intro wz hSw; have m3 : wz.cell? ⟨nb, 3, none⟩ = some (.int .u32 (xa : Int)) := hSw.cell 3; go_simp; try (with_reducible rfl)
                try simp only [Act.put, List.setIfInBounds_toArray, List.set_cons_zero, List.set_cons_succ, List.getElem_toArray, List.getElem_cons_succ, List.getElem_cons_zero]
                refine take_at (some 112) (i := 18) (v := ?_) rfl rfl (by kernel_rfl) (by kernel_rfl) (by kernel_rfl) (fun _ _ _ h => h) (Or.inl ⟨by kernel_rfl, ?_⟩) hHeld ?_
                rotate_left
                · intro wz hSw; have m3 : wz.cell? ⟨nb, 3, none⟩ = some (.int .u32 (xa : Int)) := hSw.cell 3; go_simp; try (with_reducible rfl)
                try simp only [Act.put, List.setIfInBounds_toArray, List.set_cons_zero, List.set_cons_succ, List.getElem_toArray, List.getElem_cons_succ, List.getElem_cons_zero]
                refine take_at (some 113) (i := 19) (v := ?_) rfl rfl (by kernel_rfl) (by kernel_rfl) (by kernel_rfl) (fun _ _ _ h => h) (Or.inl ⟨by kernel_rfl, ?_⟩) hHeld ?_
                rotate_left
                · intro wz hSw; have m3 : wz.cell? ⟨nb, 3, none⟩ = some (.int .u32 (xa : Int)) := hSw.cell 3; go_simp; try (with_reducible rfl)
                try simp only [Act.put, List.setIfInBounds_toArray, List.set_cons_zero, List.set_cons_succ, List.getElem_toArray, List.getElem_cons_succ, List.getElem_cons_zero]
                refine take_at (some 114) (i := 20) (v := ?_) rfl rfl (by kernel_rfl) (by kernel_rfl) (by kernel_rfl) (fun _ _ _ h => h) (Or.inl ⟨by kernel_rfl, ?_⟩) hHeld ?_
                rotate_left
                · intro wz hSw; have m3 : wz.cell? ⟨nb, 3, none⟩ = some (.int .u32 (xa : Int)) := hSw.cell 3; go_simp; try (with_reducible rfl)
                try simp only [Act.put, List.setIfInBounds_toArray, List.set_cons_zero, List.set_cons_succ, List.getElem_toArray, List.getElem_cons_succ, List.getElem_cons_zero]
                refine take_at (some 116) (i := 22) (v := ?_) rfl rfl (by kernel_rfl) (by kernel_rfl) (by kernel_rfl) (fun _ _ _ h => h) (Or.inl ⟨by kernel_rfl, ?_⟩) hHeld ?_
                rotate_left
                · intro wz hSw; have m3 : wz.cell? ⟨nb, 3, none⟩ = some (.int .u32 (xa : Int)) := hSw.cell 3; go_simp; try (with_reducible rfl)
                try simp only [Act.put, List.setIfInBounds_toArray, List.set_cons_zero, List.set_cons_succ, List.getElem_toArray, List.getElem_cons_succ, List.getElem_cons_zero]
                refine take_at (some 117) (i := 23) (v := ?_) rfl rfl (by kernel_rfl) (by kernel_rfl) (by kernel_rfl) (fun _ _ _ h => h) (Or.inl ⟨by kernel_rfl, ?_⟩) hHeld ?_
                rotate_left
                · intro wz hSw; have m3 : wz.cell? ⟨nb, 3, none⟩ = some (.int .u32 (xa : Int)) := hSw.cell 3; go_simp; try (with_reducible rfl)
                try simp only [Act.put, List.setIfInBounds_toArray, List.set_cons_zero, List.set_cons_succ, List.getElem_toArray, List.getElem_cons_succ, List.getElem_cons_zero]
                refine take_at (some 118) (i := 24) (v := ?_) rfl rfl (by kernel_rfl) (by kernel_rfl) (by kernel_rfl) (fun _ _ _ h => h) (Or.inl ⟨by kernel_rfl, ?_⟩) hHeld ?_
                rotate_left
                · intro wz hSw; have m3 : wz.cell? ⟨nb, 3, none⟩ = some (.int .u32 (xa : Int)) := hSw.cell 3; go_simp; try (with_reducible rfl)
                try simp only [Act.put, List.setIfInBounds_toArray, List.set_cons_zero, List.set_cons_succ, List.getElem_toArray, List.getElem_cons_succ, List.getElem_cons_zero]
                refine take_at (some 119) (i := 25) (v := ?_) rfl rfl (by kernel_rfl) (by kernel_rfl) (by kernel_rfl) (fun _ _ _ h => h) (Or.inl ⟨by kernel_rfl, ?_⟩) hHeld ?_
                rotate_left
                · intro wz hSw; have m3 : wz.cell? ⟨nb, 3, none⟩ = some (.int .u32 (xa : Int)) := hSw.cell 3; go_simp; try (with_reducible rfl)
                try simp only [Act.put, List.setIfInBounds_toArray, List.set_cons_zero, List.set_cons_succ, List.getElem_toArray, List.getElem_cons_succ, List.getElem_cons_zero]
                refine wpAnyH_ready (rs := [21]) (by kernel_rfl) (by simp) (AllReadyH.cons rfl (fun K hK => ?_) AllReadyH.nil)
                rw [if_pos (by kernel_rfl)]
                go_simp
                refine (lg_admit2 hy4 s xa HSZ.out HSM.out.2).mono ?_
                rintro e y5 ⟨rfl, hy5⟩
                try rw [HEA.out]
                try dsimp only
                refine hK.out _ _ (hy5.head) (fun hHeld => ?_)
                try simp only [Act.put, List.setIfInBounds_toArray, List.set_cons_zero, List.set_cons_succ, List.getElem_toArray, List.getElem_cons_succ, List.getElem_cons_zero]
                refine wpAnyH_ready (rs := [26]) (by kernel_rfl) (by simp) (AllReadyH.cons rfl (fun K hK => ?_) AllReadyH.nil)
                rw [if_pos (by kernel_rfl)]
                go_simp
                refine (lg_admit hy5 s xa HSZ.out HSM.out.2).mono ?_
                rintro e y6 ⟨rfl, hy6⟩
                try rw [HEA.out]
                try dsimp only
                refine hK.out _ _ (hy6.head) (fun hHeld => ?_)
                try simp only [Act.put, List.setIfInBounds_toArray, List.set_cons_zero, List.set_cons_succ, List.getElem_toArray, List.getElem_cons_succ, List.getElem_cons_zero]
                refine take_at (some 121) (i := 27) (v := ?_) rfl rfl (by kernel_rfl) (by kernel_rfl) (by kernel_rfl) (fun _ _ _ h => h) (Or.inl ⟨by kernel_rfl, ?_⟩) hHeld ?_
                rotate_left
                · intro wz hSw; have m3 : wz.cell? ⟨nb, 3, none⟩ = some (.int .u32 (xa : Int)) := hSw.cell 3; go_simp; try (with_reducible rfl)
                try simp only [Act.put, List.setIfInBounds_toArray, List.set_cons_zero, List.set_cons_succ, List.getElem_toArray, List.getElem_cons_succ, List.getElem_cons_zero]
                refine take_at (some 122) (i := 28) (v := ?_) rfl rfl (by kernel_rfl) (by kernel_rfl) (by kernel_rfl) (fun _ _ _ h => h) (Or.inl ⟨by kernel_rfl, ?_⟩) hHeld ?_
                rotate_left
                · intro wz hSw; have m3 : wz.cell? ⟨nb, 3, none⟩ = some (.int .u32 (xa : Int)) := hSw.cell 3; go_simp; try (with_reducible rfl)
                try simp only [Act.put, List.setIfInBounds_toArray, List.set_cons_zero, List.set_cons_succ, List.getElem_toArray, List.getElem_cons_succ, List.getElem_cons_zero]
                refine wpAnyH_done (by kernel_rfl) ?_ _
                refine gen_qX (fun y => Lg w tn [⟨g', mb', lo', hi', gs', V2⟩, ⟨g, mb, lo, hi, gs, U2⟩] ((nb, 35, #[.int .i64 xw, .string xt, .int .i64 xk, .int .u32 (xa : Int)]) :: [(g0, 24, #[.int .i64 a0, .int .i64 a1, .int .i64 a2, .int .i64 a3, .slice A n c])]) y) hy6 (fun yy hyy => ?_)
                clear hHeld hy1 hy2 hy3 hy4 hy5 hy6 HXD HX
                have HX := Lib.hid hyy
                clear hyy
                go_wp2
                go_roundw
                case rel => exact ⟨i + 1, U2, V2, by omega, by go_num, HE, Lib.hid (HX.out.less (fun b hb => List.mem_cons_of_mem _ hb))⟩
                case measure => simp [intOf]; omega
        · have hi2 : ¬ (i : Int) < (nl : Int) := by omega
          go_wp2
          go_ret
          exact ⟨by first | rfl | simp, HV.out.l⟩
    · have hm2 : decide ((1000 : Int) < (s.size : Int)) = true := decide_eq_true (by omega)
      have hm3 : (1000 : Int) < (s.size : Int) := by omega
      go_wp2_with (first
        | (go_at_call 10; (with_reducible refine (HGR.out _ HV3.out.l).mono ?_); rintro e u4 ⟨gr, rfl, _, hb⟩; have HV4 := Lib.hid (HV3.out.on hb); clear hb e0 e1 e2 e3 e4; cases gr)
        | (go_at_call 11; (with_reducible refine (HGO.out _ HV4.out.l).mono ?_); rintro e u5 ⟨gr2, rfl, hob, hb⟩; have HV5 := Lib.hid (HV4.out.on hb); have HOB := Lib.hid hob; clear hb hob; cases gr2))
      all_goals go_ret
      all_goals first | exact ⟨rfl, HV4.out.l⟩ | exact ⟨rfl, HV5.out.l⟩
end Go.Proofs.Ytcplebbaiambgaa
