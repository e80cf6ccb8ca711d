/- GateLook: the walk. (Written by gen_gtlook.py.) -/
import Derived.Test.YtcplebbaiambgaaG9
import Derived.Test.YtcplebbaiambgaaG13
import Derived.Test.YtcplebbaiambgaaG1
import Derived.BigQuiet
import Derived.Deep.QuietTactic
import Derived.BigRegion
import Derived.Deep.RegionHeld3
namespace Go.Proofs.Ytcplebbaiambgaa
set_option linter.unusedVariables false
set_option maxRecDepth 100000
set_option linter.unusedSimpArgs false
open Go.RowKit

theorem gen_qK {Q : Exit → Act → World → Prop} {e : Exit} {a : Act} {w : World} (S : World → Prop) (hS : S w) (h : ∀ u, S u → Q e a u) : Q e a w := h w hS

set_option maxRecDepth 100000 in
set_option maxHeartbeats 16000000 in
theorem walk_GateLook (x : Cv) (B : Option Addr) (lo0 : List Go4) (d : Nat) (s : ByteArray) (a : Nat) (w : World) (h : InCf w x) (ho : InG w B lo0 d) (hs : s.size ≤ 140737488355328) (ha : a < 4294967296) :
    Calls Try.prog 8 #[.agg (ccs x), .slice B lo0.length d, .string s, .int .u32 (a : Int)] w fun e w' => e = .returned (.bool true) ∧ Below w.heap.size w w' := by
  have HGR := Lib.hid (fun u (hu : Below w.heap.size w u) => great_ok x u (h.onG hu))
  have HN0 := Lib.hid (fun (hc : cfgB x.cg = false) => gnew_no h.rc hc)
  have HN1 := Lib.hid (fun (hc : cfgB x.cg = true) => gnew_yes h.rc hc)
  have HRT := Lib.hid h.rc.r
  have HMX := Lib.hid h.rc.f.max
  have HCP := Lib.hid h.rc.f.cap
  have HTE := Lib.hid (fun (hc : cfgB x.cg = true) => (cfgB_parts hc).2.2.2.2.2.2)
  have HTN := Lib.hid (show ∀ s, (fT s x.ts).map (·.t) = gtF x.cg.tens s from fun s => gtF_tens s x.ts)
  have HGO := Lib.hid (fun u (hu : Below w.heap.size w u) => ggreat_ok B lo0 d u (ho.on hu))
  have HOP := Lib.hid ho
  obtain ⟨C, hC⟩ : ∃ C, cfgB x.cg = C := ⟨_, rfl⟩
  simp only [hC] at HN0 HN1 HTE
  obtain ⟨tn, htn⟩ : ∃ tn, x.cg.tens = tn := ⟨_, rfl⟩
  rw [htn] at HN1 HTE HTN
  obtain ⟨a0, a1, a2, a3, ts, A, c⟩ := x
  obtain ⟨n, hn⟩ : ∃ n, ts.length = n := ⟨_, rfl⟩
  have HN := Lib.hid hn
  dsimp only at HRT HMX HCP HTN
  simp only [ccs, hn] at HGR HN0 HN1 ⊢
  have HX := Lib.hid (show Bx w w.heap.size 24 #[.int .i64 a0, .int .i64 a1, .int .i64 a2, .int .i64 a3, .slice A n c] (w.alloc (.cells #[.int .i64 a0, .int .i64 a1, .int .i64 a2, .int .i64 a3, .slice A n c] 24)) from Bx.new w _ _)
  clear h hn hC htn
  obtain ⟨nl, hnl⟩ : ∃ k, lo0.length = k := ⟨_, rfl⟩
  have HNL := Lib.hid hnl
  have hnl47 : nl ≤ 140737488355328 := by rw [← hnl]; exact ho.n
  rw [hnl] at HGO ⊢
  clear hnl ho
  go_enter Try.func8, Try.ntmps8
  go_upto_region 2 with (go_at_call 9; refine (ghead_ok _).mono ?_; rintro e u1 ⟨rfl, hb⟩; have HX1 := Lib.hid (HX.out.on hb); clear hb)
  obtain ⟨g0, hg0⟩ : ∃ g, w.heap.size = g := ⟨_, rfl⟩
  have HG0 := Lib.hid hg0
  rw [hg0] at HX1 ⊢
  clear hg0
  have e0 : u1.cell? ⟨g0, 0, none⟩ = some (.int .i64 a0) := HX1.out.b.cell 0
  have e1 : u1.cell? ⟨g0, 1, none⟩ = some (.int .i64 a1) := HX1.out.b.cell 1
  have e2 : u1.cell? ⟨g0, 2, none⟩ = some (.int .i64 a2) := HX1.out.b.cell 2
  have e3 : u1.cell? ⟨g0, 3, none⟩ = some (.int .i64 a3) := HX1.out.b.cell 3
  have e4 : u1.cell? ⟨g0, 4, none⟩ = some (.slice A n c) := HX1.out.b.cell 4
  cases C with
  | false =>
    go_wp2_with (first
      | (go_at_call 12; (with_reducible refine (HN0.out (by first | rfl | trivial) _ HX1.out.l).mono ?_); rintro e u2 ⟨rfl, hb⟩; have HX2 := Lib.hid (HX1.out.on hb); clear e0 e1 e2 e3 e4; have e0 : u2.cell? ⟨g0, 0, none⟩ = some (.int .i64 a0) := HX2.out.b.cell 0; have e1 : u2.cell? ⟨g0, 1, none⟩ = some (.int .i64 a1) := HX2.out.b.cell 1; have e2 : u2.cell? ⟨g0, 2, none⟩ = some (.int .i64 a2) := HX2.out.b.cell 2; have e3 : u2.cell? ⟨g0, 3, none⟩ = some (.int .i64 a3) := HX2.out.b.cell 3; have e4 : u2.cell? ⟨g0, 4, none⟩ = some (.slice A n c) := HX2.out.b.cell 4; clear hb)
      | (go_at_call 12; (with_reducible refine (HN0.out (by first | rfl | trivial) _ HX2.out.l).mono ?_); rintro e u3 ⟨rfl, hb⟩; have HX3 := Lib.hid (HX2.out.on hb); clear hb))
    go_ret
    exact ⟨rfl, HX3.out.l⟩
  | true =>
    have HL0 := Lib.hid (show Lg w tn [] [(g0, 24, #[.int .i64 a0, .int .i64 a1, .int .i64 a2, .int .i64 a3, .slice A n c])] u1 from ⟨(fun G hG => by cases hG), .nil, (fun b hb => by obtain rfl := List.mem_singleton.1 hb; exact ⟨HX1.out.b, gcfg_ne⟩), HX1.out.l⟩)
    go_upto_region 3 with (go_at_call 12; (with_reducible refine (HN1.out (by first | rfl | trivial) _ _ _ HL0.out).mono ?_); rintro e u2 ⟨g, mb, lo, hi, gs, rfl, hv⟩; have HV2 := Lib.hid hv; clear hv)
    clear e0 e1 e2 e3 e4
    have e0 : u2.cell? ⟨g0, 0, none⟩ = some (.int .i64 a0) := HV2.out.head.cell 0
    have e1 : u2.cell? ⟨g0, 1, none⟩ = some (.int .i64 a1) := HV2.out.head.cell 1
    have e2 : u2.cell? ⟨g0, 2, none⟩ = some (.int .i64 a2) := HV2.out.head.cell 2
    have e3 : u2.cell? ⟨g0, 3, none⟩ = some (.int .i64 a3) := HV2.out.head.cell 3
    have e4 : u2.cell? ⟨g0, 4, none⟩ = some (.slice A n c) := HV2.out.head.cell 4
    go_upto_region 4 with (go_at_call 12; (with_reducible refine (HN1.out (by first | rfl | trivial) _ _ _ HV2.out).mono ?_); rintro e u3 ⟨g', mb', lo', hi', gs', rfl, hv⟩; have HV3 := Lib.hid hv; clear hv)
    clear e0 e1 e2 e3 e4
    have e0 : u3.cell? ⟨g0, 0, none⟩ = some (.int .i64 a0) := HV3.out.head.cell 0
    have e1 : u3.cell? ⟨g0, 1, none⟩ = some (.int .i64 a1) := HV3.out.head.cell 1
    have e2 : u3.cell? ⟨g0, 2, none⟩ = some (.int .i64 a2) := HV3.out.head.cell 2
    have e3 : u3.cell? ⟨g0, 3, none⟩ = some (.int .i64 a3) := HV3.out.head.cell 3
    have e4 : u3.cell? ⟨g0, 4, none⟩ = some (.slice A n c) := HV3.out.head.cell 4
    by_cases hm1 : s.size ≤ 1000
    · have hm2 : decide ((1000 : Int) < (s.size : Int)) = false := decide_eq_false (by omega)
      have hm3 : ¬ (1000 : Int) < (s.size : Int) := by omega
      go_upto_region 6 with (first
        | (go_at_call 10; (with_reducible refine (HGR.out _ HV3.out.l).mono ?_); rintro e u4 ⟨gr, rfl, _, hb⟩; have HV4 := Lib.hid (HV3.out.on hb); clear hb e0 e1 e2 e3 e4; cases gr)
        | (go_at_call 11; (with_reducible refine (HGO.out _ HV4.out.l).mono ?_); rintro e u5 ⟨gr2, rfl, hob, hb⟩; have HV5 := Lib.hid (HV4.out.on hb); have HOB := Lib.hid hob; clear hb hob; cases gr2))
      any_goals (go_ret; first | exact ⟨rfl, HV4.out.l⟩ | exact ⟨rfl, HV5.out.l⟩)
      have hnb : nl ≤ 200 := by have := HOB.out (by first | rfl | trivial); rw [HNL.out] at this; exact this
      clear HOB HN0 HTE HTN HGR HGO
      obtain ⟨wb, hwb⟩ : ∃ wb, u5 = wb := ⟨_, rfl⟩
      rw [hwb] at HV5 ⊢
      clear hwb
      go_wp2_with fail
      go_loopw [12] (fun v12 wr => ∃ (i : Nat) (U : Us), i ≤ nl ∧ v12 = .int .i64 (i : Int) ∧ Hid (Lg w tn [⟨g', mb', lo', hi', gs', U⟩, ⟨g, mb, lo, hi, gs, U⟩] [(g0, 24, #[.int .i64 a0, .int .i64 a1, .int .i64 a2, .int .i64 a3, .slice A n c])] wr)) (fun v12 _ => nl - (intOf v12).toNat)
      case atStart => exact ⟨0, U0, by omega, rfl, HV5⟩
      case round =>
        obtain ⟨i, U, hi0, rfl, HV⟩ := hrel
        by_cases hi1 : i < nl
        · have hi2 : (i : Int) < (nl : Int) := by omega
          obtain ⟨b, o, x, rfl, hx, hsm, hc⟩ := HOP.out.at4 i (by rw [HNL.out]; exact hi1)
          obtain ⟨c0, c1, c2, c3⟩ := hc wr HV.out.l
          obtain ⟨xw, xt, xk, xa⟩ := x
          dsimp only at c0 c1 c2 c3
          have HSM := Lib.hid hsm
          clear hc hx hsm
          go_upto_region 10 with fail
          clear c0 c1 c2 c3
          have HVN := Lib.hid (HV.out.new 35 #[.int .i64 xw, .string xt, .int .i64 xk, .int .u32 (xa : Int)] (by decide))
          obtain ⟨v0, hv0⟩ : ∃ v, wr.alloc (.cells #[.int .i64 xw, .string xt, .int .i64 xk, .int .u32 (xa : Int)] 35) = v := ⟨_, rfl⟩
          obtain ⟨nb, hnb2⟩ : ∃ nb, wr.heap.size = nb := ⟨_, rfl⟩
          rw [hv0] at HVN ⊢
          rw [hnb2] at HVN ⊢
          clear hv0 hnb2
          have d1 : v0.cell? ⟨nb, 1, none⟩ = some (.string xt) := HVN.out.head.cell 1
          have d3 : v0.cell? ⟨nb, 3, none⟩ = some (.int .u32 (xa : Int)) := HVN.out.head.cell 3
          go_upto_region 12 with (first
            | (go_at_call 16; refine (lg_admit2 HVN.out xt xa HSM.out.1 HSM.out.2).mono ?_; rintro e u6 ⟨rfl, hv⟩; have HV6 := Lib.hid hv; clear hv d1 d3; have d1 : u6.cell? ⟨nb, 1, none⟩ = some (.string xt) := HV6.out.head.cell 1; have d2 : u6.cell? ⟨nb, 2, none⟩ = some (.int .i64 xk) := HV6.out.head.cell 2)
            | (go_at_call 20; refine (lg_used2 HV6.out xt xk HSM.out.1).mono ?_; rintro e u7 ⟨rfl, hv⟩; have HV7 := Lib.hid hv; clear hv d1 d2; have d0 : u7.cell? ⟨nb, 0, none⟩ = some (.int .i64 xw) := HV7.out.head.cell 0))
          by_cases hw : xw = 2
          · have hw2 : (xw == 2) = true := by rw [beq_iff_eq]; exact hw
            clear hw
            go_upto_region 13 with fail
            clear d0
            try simp only [List.cons_append, List.nil_append]
            refine wp_region_held_drew (S := fun wz => Bk wz nb 35 #[.int .i64 xw, .string xt, .int .i64 xk, .int .u32 (xa : Int)]) (by kernel_rfl) (HV7.out.head.drew) (fun hHeld => ?_)
            refine take_at (some 65) (i := 0) (v := ?_) rfl rfl (by kernel_rfl) (by kernel_rfl) (by kernel_rfl) (fun _ _ _ h => h) (Or.inl ⟨by kernel_rfl, ?_⟩) hHeld ?_
            rotate_left
            · intro wz hSw; have m1 : wz.cell? ⟨nb, 1, none⟩ = some (.string xt) := hSw.cell 1; have m2 : wz.cell? ⟨nb, 2, none⟩ = some (.int .i64 xk) := hSw.cell 2; go_simp; try (with_reducible rfl)
            try simp only [Act.put, List.setIfInBounds_toArray, List.set_cons_zero, List.set_cons_succ, List.getElem_toArray, List.getElem_cons_succ, List.getElem_cons_zero]
            refine take_at (some 66) (i := 1) (v := ?_) rfl rfl (by kernel_rfl) (by kernel_rfl) (by kernel_rfl) (fun _ _ _ h => h) (Or.inl ⟨by kernel_rfl, ?_⟩) hHeld ?_
            rotate_left
            · intro wz hSw; have m1 : wz.cell? ⟨nb, 1, none⟩ = some (.string xt) := hSw.cell 1; have m2 : wz.cell? ⟨nb, 2, none⟩ = some (.int .i64 xk) := hSw.cell 2; go_simp; try (with_reducible rfl)
            try simp only [Act.put, List.setIfInBounds_toArray, List.set_cons_zero, List.set_cons_succ, List.getElem_toArray, List.getElem_cons_succ, List.getElem_cons_zero]
            refine take_at (some 67) (i := 2) (v := ?_) rfl rfl (by kernel_rfl) (by kernel_rfl) (by kernel_rfl) (fun _ _ _ h => h) (Or.inl ⟨by kernel_rfl, ?_⟩) hHeld ?_
            rotate_left
            · intro wz hSw; have m1 : wz.cell? ⟨nb, 1, none⟩ = some (.string xt) := hSw.cell 1; have m2 : wz.cell? ⟨nb, 2, none⟩ = some (.int .i64 xk) := hSw.cell 2; go_simp; try (with_reducible rfl)
            try simp only [Act.put, List.setIfInBounds_toArray, List.set_cons_zero, List.set_cons_succ, List.getElem_toArray, List.getElem_cons_succ, List.getElem_cons_zero]
            refine take_at (some 68) (i := 3) (v := ?_) rfl rfl (by kernel_rfl) (by kernel_rfl) (by kernel_rfl) (fun _ _ _ h => h) (Or.inl ⟨by kernel_rfl, ?_⟩) hHeld ?_
            rotate_left
            · intro wz hSw; have m1 : wz.cell? ⟨nb, 1, none⟩ = some (.string xt) := hSw.cell 1; have m2 : wz.cell? ⟨nb, 2, none⟩ = some (.int .i64 xk) := hSw.cell 2; go_simp; try (with_reducible rfl)
            try simp only [Act.put, List.setIfInBounds_toArray, List.set_cons_zero, List.set_cons_succ, List.getElem_toArray, List.getElem_cons_succ, List.getElem_cons_zero]
            refine take_at (some 69) (i := 4) (v := ?_) rfl rfl (by kernel_rfl) (by kernel_rfl) (by kernel_rfl) (fun _ _ _ h => h) (Or.inl ⟨by kernel_rfl, ?_⟩) hHeld ?_
            rotate_left
            · intro wz hSw; have m1 : wz.cell? ⟨nb, 1, none⟩ = some (.string xt) := hSw.cell 1; have m2 : wz.cell? ⟨nb, 2, none⟩ = some (.int .i64 xk) := hSw.cell 2; go_simp; try (with_reducible rfl)
            try simp only [Act.put, List.setIfInBounds_toArray, List.set_cons_zero, List.set_cons_succ, List.getElem_toArray, List.getElem_cons_succ, List.getElem_cons_zero]
            refine take_at (some 71) (i := 6) (v := ?_) rfl rfl (by kernel_rfl) (by kernel_rfl) (by kernel_rfl) (fun _ _ _ h => h) (Or.inl ⟨by kernel_rfl, ?_⟩) hHeld ?_
            rotate_left
            · intro wz hSw; have m1 : wz.cell? ⟨nb, 1, none⟩ = some (.string xt) := hSw.cell 1; have m2 : wz.cell? ⟨nb, 2, none⟩ = some (.int .i64 xk) := hSw.cell 2; go_simp; try (with_reducible rfl)
            try simp only [Act.put, List.setIfInBounds_toArray, List.set_cons_zero, List.set_cons_succ, List.getElem_toArray, List.getElem_cons_succ, List.getElem_cons_zero]
            refine take_at (some 72) (i := 7) (v := ?_) rfl rfl (by kernel_rfl) (by kernel_rfl) (by kernel_rfl) (fun _ _ _ h => h) (Or.inl ⟨by kernel_rfl, ?_⟩) hHeld ?_
            rotate_left
            · intro wz hSw; have m1 : wz.cell? ⟨nb, 1, none⟩ = some (.string xt) := hSw.cell 1; have m2 : wz.cell? ⟨nb, 2, none⟩ = some (.int .i64 xk) := hSw.cell 2; go_simp; try (with_reducible rfl)
            try simp only [Act.put, List.setIfInBounds_toArray, List.set_cons_zero, List.set_cons_succ, List.getElem_toArray, List.getElem_cons_succ, List.getElem_cons_zero]
            refine take_at (some 73) (i := 8) (v := ?_) rfl rfl (by kernel_rfl) (by kernel_rfl) (by kernel_rfl) (fun _ _ _ h => h) (Or.inl ⟨by kernel_rfl, ?_⟩) hHeld ?_
            rotate_left
            · intro wz hSw; have m1 : wz.cell? ⟨nb, 1, none⟩ = some (.string xt) := hSw.cell 1; have m2 : wz.cell? ⟨nb, 2, none⟩ = some (.int .i64 xk) := hSw.cell 2; go_simp; try (with_reducible rfl)
            try simp only [Act.put, List.setIfInBounds_toArray, List.set_cons_zero, List.set_cons_succ, List.getElem_toArray, List.getElem_cons_succ, List.getElem_cons_zero]
            refine take_at (some 74) (i := 9) (v := ?_) rfl rfl (by kernel_rfl) (by kernel_rfl) (by kernel_rfl) (fun _ _ _ h => h) (Or.inl ⟨by kernel_rfl, ?_⟩) hHeld ?_
            rotate_left
            · intro wz hSw; have m1 : wz.cell? ⟨nb, 1, none⟩ = some (.string xt) := hSw.cell 1; have m2 : wz.cell? ⟨nb, 2, none⟩ = some (.int .i64 xk) := hSw.cell 2; go_simp; try (with_reducible rfl)
            try simp only [Act.put, List.setIfInBounds_toArray, List.set_cons_zero, List.set_cons_succ, List.getElem_toArray, List.getElem_cons_succ, List.getElem_cons_zero]
            refine take_at (some 75) (i := 10) (v := ?_) rfl rfl (by kernel_rfl) (by kernel_rfl) (by kernel_rfl) (fun _ _ _ h => h) (Or.inl ⟨by kernel_rfl, ?_⟩) hHeld ?_
            rotate_left
            · intro wz hSw; have m1 : wz.cell? ⟨nb, 1, none⟩ = some (.string xt) := hSw.cell 1; have m2 : wz.cell? ⟨nb, 2, none⟩ = some (.int .i64 xk) := hSw.cell 2; go_simp; try (with_reducible rfl)
            try simp only [Act.put, List.setIfInBounds_toArray, List.set_cons_zero, List.set_cons_succ, List.getElem_toArray, List.getElem_cons_succ, List.getElem_cons_zero]
            have HVD := Lib.hid (HV7.out.on (Below.refl _ _).drew)
            refine wpAnyH_ready (rs := [5]) (by kernel_rfl) (by simp) (AllReadyH.cons rfl (fun K hK => ?_) AllReadyH.nil)
            rw [if_pos (by kernel_rfl)]
            go_simp
            refine (lg_give2 HVD.out xt xk HSM.out.1).mono ?_
            rintro e x1 ⟨rfl, hx1⟩
            try dsimp only
            refine hK.out _ _ (hx1.head) (fun hHeld => ?_)
            try simp only [Act.put, List.setIfInBounds_toArray, List.set_cons_zero, List.set_cons_succ, List.getElem_toArray, List.getElem_cons_succ, List.getElem_cons_zero]
            refine wpAnyH_ready (rs := [11]) (by kernel_rfl) (by simp) (AllReadyH.cons rfl (fun K hK => ?_) AllReadyH.nil)
            rw [if_pos (by kernel_rfl)]
            go_simp
            refine (lg_give hx1 xt xk HSM.out.1).mono ?_
            rintro e x2 ⟨rfl, hx2⟩
            try dsimp only
            refine hK.out _ _ (hx2.head) (fun hHeld => ?_)
            try simp only [Act.put, List.setIfInBounds_toArray, List.set_cons_zero, List.set_cons_succ, List.getElem_toArray, List.getElem_cons_succ, List.getElem_cons_zero]
            obtain ⟨E, hE⟩ : ∃ E, gvB U xt xk = E := ⟨_, rfl⟩
            rw [hE]
            clear hE
            have hEE : (E != E) = false := bne_self_eq_false E
            refine take_at (some 77) (i := 12) (v := ?_) rfl rfl (by kernel_rfl) (by kernel_rfl) (by kernel_rfl) (fun _ _ _ h => h) (Or.inl ⟨by kernel_rfl, ?_⟩) hHeld ?_
            rotate_left
            · intro wz hSw; have m1 : wz.cell? ⟨nb, 1, none⟩ = some (.string xt) := hSw.cell 1; have m2 : wz.cell? ⟨nb, 2, none⟩ = some (.int .i64 xk) := hSw.cell 2; go_simp; try (with_reducible rfl)
            try simp only [Act.put, List.setIfInBounds_toArray, List.set_cons_zero, List.set_cons_succ, List.getElem_toArray, List.getElem_cons_succ, List.getElem_cons_zero]
            refine wpAnyH_done (by kernel_rfl) ?_ _
            refine gen_qK (fun y => Lg w tn [⟨g', mb', lo', hi', gs', gvU U xt xk⟩, ⟨g, mb, lo, hi, gs, gvU U xt xk⟩] ((nb, 35, #[.int .i64 xw, .string xt, .int .i64 xk, .int .u32 (xa : Int)]) :: [(g0, 24, #[.int .i64 a0, .int .i64 a1, .int .i64 a2, .int .i64 a3, .slice A n c])]) y) hx2 (fun yy hyy => ?_)
            clear hx1 hx2 HVD
            clear hHeld
            have HX := Lib.hid hyy
            clear hyy
            go_wp2
            go_roundw
            case rel => exact ⟨i + 1, _, by omega, by go_num, Lib.hid (HX.out.less (fun b hb => List.mem_cons_of_mem _ hb))⟩
            case measure => simp [intOf]; omega
          · have hw2 : (xw == 2) = false := by rw [beq_eq_false_iff_ne]; exact hw
            go_upto_region 15 with fail
            clear d0
            try simp only [List.cons_append, List.nil_append]
            refine wp_region_held_drew (S := fun wz => Bk wz nb 35 #[.int .i64 xw, .string xt, .int .i64 xk, .int .u32 (xa : Int)]) (by kernel_rfl) (HV7.out.head.drew) (fun hHeld => ?_)
            refine take_at (some 78) (i := 0) (v := ?_) rfl rfl (by kernel_rfl) (by kernel_rfl) (by kernel_rfl) (fun _ _ _ h => h) (Or.inl ⟨by kernel_rfl, ?_⟩) hHeld ?_
            rotate_left
            · intro wz hSw; have m1 : wz.cell? ⟨nb, 1, none⟩ = some (.string xt) := hSw.cell 1; have m2 : wz.cell? ⟨nb, 2, none⟩ = some (.int .i64 xk) := hSw.cell 2; go_simp; try (with_reducible rfl)
            try simp only [Act.put, List.setIfInBounds_toArray, List.set_cons_zero, List.set_cons_succ, List.getElem_toArray, List.getElem_cons_succ, List.getElem_cons_zero]
            refine take_at (some 79) (i := 1) (v := ?_) rfl rfl (by kernel_rfl) (by kernel_rfl) (by kernel_rfl) (fun _ _ _ h => h) (Or.inl ⟨by kernel_rfl, ?_⟩) hHeld ?_
            rotate_left
            · intro wz hSw; have m1 : wz.cell? ⟨nb, 1, none⟩ = some (.string xt) := hSw.cell 1; have m2 : wz.cell? ⟨nb, 2, none⟩ = some (.int .i64 xk) := hSw.cell 2; go_simp; try (with_reducible rfl)
            try simp only [Act.put, List.setIfInBounds_toArray, List.set_cons_zero, List.set_cons_succ, List.getElem_toArray, List.getElem_cons_succ, List.getElem_cons_zero]
            refine take_at (some 80) (i := 2) (v := ?_) rfl rfl (by kernel_rfl) (by kernel_rfl) (by kernel_rfl) (fun _ _ _ h => h) (Or.inl ⟨by kernel_rfl, ?_⟩) hHeld ?_
            rotate_left
            · intro wz hSw; have m1 : wz.cell? ⟨nb, 1, none⟩ = some (.string xt) := hSw.cell 1; have m2 : wz.cell? ⟨nb, 2, none⟩ = some (.int .i64 xk) := hSw.cell 2; go_simp; try (with_reducible rfl)
            try simp only [Act.put, List.setIfInBounds_toArray, List.set_cons_zero, List.set_cons_succ, List.getElem_toArray, List.getElem_cons_succ, List.getElem_cons_zero]
            refine take_at (some 81) (i := 3) (v := ?_) rfl rfl (by kernel_rfl) (by kernel_rfl) (by kernel_rfl) (fun _ _ _ h => h) (Or.inl ⟨by kernel_rfl, ?_⟩) hHeld ?_
            rotate_left
            · intro wz hSw; have m1 : wz.cell? ⟨nb, 1, none⟩ = some (.string xt) := hSw.cell 1; have m2 : wz.cell? ⟨nb, 2, none⟩ = some (.int .i64 xk) := hSw.cell 2; go_simp; try (with_reducible rfl)
            try simp only [Act.put, List.setIfInBounds_toArray, List.set_cons_zero, List.set_cons_succ, List.getElem_toArray, List.getElem_cons_succ, List.getElem_cons_zero]
            refine take_at (some 82) (i := 4) (v := ?_) rfl rfl (by kernel_rfl) (by kernel_rfl) (by kernel_rfl) (fun _ _ _ h => h) (Or.inl ⟨by kernel_rfl, ?_⟩) hHeld ?_
            rotate_left
            · intro wz hSw; have m1 : wz.cell? ⟨nb, 1, none⟩ = some (.string xt) := hSw.cell 1; have m2 : wz.cell? ⟨nb, 2, none⟩ = some (.int .i64 xk) := hSw.cell 2; go_simp; try (with_reducible rfl)
            try simp only [Act.put, List.setIfInBounds_toArray, List.set_cons_zero, List.set_cons_succ, List.getElem_toArray, List.getElem_cons_succ, List.getElem_cons_zero]
            refine take_at (some 84) (i := 6) (v := ?_) rfl rfl (by kernel_rfl) (by kernel_rfl) (by kernel_rfl) (fun _ _ _ h => h) (Or.inl ⟨by kernel_rfl, ?_⟩) hHeld ?_
            rotate_left
            · intro wz hSw; have m1 : wz.cell? ⟨nb, 1, none⟩ = some (.string xt) := hSw.cell 1; have m2 : wz.cell? ⟨nb, 2, none⟩ = some (.int .i64 xk) := hSw.cell 2; go_simp; try (with_reducible rfl)
            try simp only [Act.put, List.setIfInBounds_toArray, List.set_cons_zero, List.set_cons_succ, List.getElem_toArray, List.getElem_cons_succ, List.getElem_cons_zero]
            refine take_at (some 85) (i := 7) (v := ?_) rfl rfl (by kernel_rfl) (by kernel_rfl) (by kernel_rfl) (fun _ _ _ h => h) (Or.inl ⟨by kernel_rfl, ?_⟩) hHeld ?_
            rotate_left
            · intro wz hSw; have m1 : wz.cell? ⟨nb, 1, none⟩ = some (.string xt) := hSw.cell 1; have m2 : wz.cell? ⟨nb, 2, none⟩ = some (.int .i64 xk) := hSw.cell 2; go_simp; try (with_reducible rfl)
            try simp only [Act.put, List.setIfInBounds_toArray, List.set_cons_zero, List.set_cons_succ, List.getElem_toArray, List.getElem_cons_succ, List.getElem_cons_zero]
            refine take_at (some 86) (i := 8) (v := ?_) rfl rfl (by kernel_rfl) (by kernel_rfl) (by kernel_rfl) (fun _ _ _ h => h) (Or.inl ⟨by kernel_rfl, ?_⟩) hHeld ?_
            rotate_left
            · intro wz hSw; have m1 : wz.cell? ⟨nb, 1, none⟩ = some (.string xt) := hSw.cell 1; have m2 : wz.cell? ⟨nb, 2, none⟩ = some (.int .i64 xk) := hSw.cell 2; go_simp; try (with_reducible rfl)
            try simp only [Act.put, List.setIfInBounds_toArray, List.set_cons_zero, List.set_cons_succ, List.getElem_toArray, List.getElem_cons_succ, List.getElem_cons_zero]
            refine take_at (some 87) (i := 9) (v := ?_) rfl rfl (by kernel_rfl) (by kernel_rfl) (by kernel_rfl) (fun _ _ _ h => h) (Or.inl ⟨by kernel_rfl, ?_⟩) hHeld ?_
            rotate_left
            · intro wz hSw; have m1 : wz.cell? ⟨nb, 1, none⟩ = some (.string xt) := hSw.cell 1; have m2 : wz.cell? ⟨nb, 2, none⟩ = some (.int .i64 xk) := hSw.cell 2; go_simp; try (with_reducible rfl)
            try simp only [Act.put, List.setIfInBounds_toArray, List.set_cons_zero, List.set_cons_succ, List.getElem_toArray, List.getElem_cons_succ, List.getElem_cons_zero]
            refine take_at (some 88) (i := 10) (v := ?_) rfl rfl (by kernel_rfl) (by kernel_rfl) (by kernel_rfl) (fun _ _ _ h => h) (Or.inl ⟨by kernel_rfl, ?_⟩) hHeld ?_
            rotate_left
            · intro wz hSw; have m1 : wz.cell? ⟨nb, 1, none⟩ = some (.string xt) := hSw.cell 1; have m2 : wz.cell? ⟨nb, 2, none⟩ = some (.int .i64 xk) := hSw.cell 2; go_simp; try (with_reducible rfl)
            try simp only [Act.put, List.setIfInBounds_toArray, List.set_cons_zero, List.set_cons_succ, List.getElem_toArray, List.getElem_cons_succ, List.getElem_cons_zero]
            have HVD := Lib.hid (HV7.out.on (Below.refl _ _).drew)
            refine wpAnyH_ready (rs := [5]) (by kernel_rfl) (by simp) (AllReadyH.cons rfl (fun K hK => ?_) AllReadyH.nil)
            rw [if_pos (by kernel_rfl)]
            go_simp
            refine (lg_take2 HVD.out xt xk HSM.out.1).mono ?_
            rintro e x1 ⟨rfl, hx1⟩
            try dsimp only
            refine hK.out _ _ (hx1.head) (fun hHeld => ?_)
            try simp only [Act.put, List.setIfInBounds_toArray, List.set_cons_zero, List.set_cons_succ, List.getElem_toArray, List.getElem_cons_succ, List.getElem_cons_zero]
            refine wpAnyH_ready (rs := [11]) (by kernel_rfl) (by simp) (AllReadyH.cons rfl (fun K hK => ?_) AllReadyH.nil)
            rw [if_pos (by kernel_rfl)]
            go_simp
            refine (lg_take hx1 xt xk HSM.out.1).mono ?_
            rintro e x2 ⟨rfl, hx2⟩
            try dsimp only
            refine hK.out _ _ (hx2.head) (fun hHeld => ?_)
            try simp only [Act.put, List.setIfInBounds_toArray, List.set_cons_zero, List.set_cons_succ, List.getElem_toArray, List.getElem_cons_succ, List.getElem_cons_zero]
            obtain ⟨E, hE⟩ : ∃ E, tkI (gtF tn xt) (U xt xk) xk = E := ⟨_, rfl⟩
            rw [hE]
            clear hE
            have hEE : (E != E) = false := bne_self_eq_false E
            refine take_at (some 90) (i := 12) (v := ?_) rfl rfl (by kernel_rfl) (by kernel_rfl) (by kernel_rfl) (fun _ _ _ h => h) (Or.inl ⟨by kernel_rfl, ?_⟩) hHeld ?_
            rotate_left
            · intro wz hSw; have m1 : wz.cell? ⟨nb, 1, none⟩ = some (.string xt) := hSw.cell 1; have m2 : wz.cell? ⟨nb, 2, none⟩ = some (.int .i64 xk) := hSw.cell 2; go_simp; try (with_reducible rfl)
            try simp only [Act.put, List.setIfInBounds_toArray, List.set_cons_zero, List.set_cons_succ, List.getElem_toArray, List.getElem_cons_succ, List.getElem_cons_zero]
            refine wpAnyH_done (by kernel_rfl) ?_ _
            refine gen_qK (fun y => Lg w tn [⟨g', mb', lo', hi', gs', tkU (gtF tn xt) U xt xk⟩, ⟨g, mb, lo, hi, gs, tkU (gtF tn xt) U xt xk⟩] ((nb, 35, #[.int .i64 xw, .string xt, .int .i64 xk, .int .u32 (xa : Int)]) :: [(g0, 24, #[.int .i64 a0, .int .i64 a1, .int .i64 a2, .int .i64 a3, .slice A n c])]) y) hx2 (fun yy hyy => ?_)
            clear hx1 hx2 HVD
            clear hHeld
            have HX := Lib.hid hyy
            clear hyy
            go_wp2
            go_roundw
            case rel => exact ⟨i + 1, _, by omega, by go_num, Lib.hid (HX.out.less (fun b hb => List.mem_cons_of_mem _ hb))⟩
            case measure => simp [intOf]; omega
        · have hi2 : ¬ (i : Int) < (nl : Int) := by omega
          have e0 : wr.cell? ⟨g0, 0, none⟩ = some (.int .i64 a0) := HV.out.head.cell 0
          have e1 : wr.cell? ⟨g0, 1, none⟩ = some (.int .i64 a1) := HV.out.head.cell 1
          have e2 : wr.cell? ⟨g0, 2, none⟩ = some (.int .i64 a2) := HV.out.head.cell 2
          have e3 : wr.cell? ⟨g0, 3, none⟩ = some (.int .i64 a3) := HV.out.head.cell 3
          have e4 : wr.cell? ⟨g0, 4, none⟩ = some (.slice A n c) := HV.out.head.cell 4
          have HNW := Lib.hid (HN1.out (by first | rfl | trivial) wr _ _ HV.out.swap)
          go_wp2_with (first
            | (go_at_call 12; (with_reducible refine HNW.out.mono ?_); rintro e u6 ⟨gf, mf, lf, hf, ff, rfl, hv⟩; have HV6 := Lib.hid hv; clear hv)
            | (go_at_call 16; (with_reducible refine (lg_admit2 HV6.out s a (by omega) ha).mono ?_); rintro e u7 ⟨rfl, hv⟩; have HV7 := Lib.hid hv; clear hv)
            | (go_at_call 16; (with_reducible refine (lg_admit HV7.out s a (by omega) ha).mono ?_); rintro e u8 ⟨rfl, hv⟩; have HV8 := Lib.hid hv; clear hv))
          go_ret
          exact ⟨by first | rfl | simp, HV8.out.l⟩
    · have hm2 : decide ((1000 : Int) < (s.size : Int)) = true := decide_eq_true (by omega)
      have hm3 : (1000 : Int) < (s.size : Int) := by omega
      go_wp2_with (first
        | (go_at_call 10; (with_reducible refine (HGR.out _ HV3.out.l).mono ?_); rintro e u4 ⟨gr, rfl, _, hb⟩; have HV4 := Lib.hid (HV3.out.on hb); clear hb e0 e1 e2 e3 e4; cases gr)
        | (go_at_call 11; (with_reducible refine (HGO.out _ HV4.out.l).mono ?_); rintro e u5 ⟨gr2, rfl, hob, hb⟩; have HV5 := Lib.hid (HV4.out.on hb); have HOB := Lib.hid hob; clear hb hob; cases gr2))
      all_goals go_ret
      all_goals first | exact ⟨rfl, HV4.out.l⟩ | exact ⟨rfl, HV5.out.l⟩
end Go.Proofs.Ytcplebbaiambgaa
