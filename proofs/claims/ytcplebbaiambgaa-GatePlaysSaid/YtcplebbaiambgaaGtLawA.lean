/- GatePlays: the walk. (Written by gen_gtplays.py.) -/
import Derived.Test.YtcplebbaiambgaaG13
import Derived.Test.YtcplebbaiambgaaG1
import Derived.BigQuiet
import Derived.Deep.QuietTactic
import Derived.BigRegion
import Derived.Deep.RegionHeld3
namespace Go.Proofs.Ytcplebbaiambgaa
set_option linter.unusedVariables false
set_option maxRecDepth 100000
set_option linter.unusedSimpArgs false
open Go.RowKit

theorem gen_qP {Q : Exit → Act → World → Prop} {e : Exit} {a : Act} {w : World} (S : World → Prop) (hS : S w) (h : ∀ u, S u → Q e a u) : Q e a w := h w hS
set_option maxRecDepth 100000 in
set_option maxHeartbeats 16000000 in
theorem walk_GatePlays (x : Cv) (B : Option Addr) (lo0 : List Go4) (d : Nat) (w : World) (h : InCf w x) (ho : InG w B lo0 d) :
    Calls Try.prog 3 #[.agg (ccs x), .slice B lo0.length d] w fun e w' => e = .returned (.bool true) ∧ Below w.heap.size w w' := by
  have HGR := Lib.hid (fun u (hu : Below w.heap.size w u) => great_ok x u (h.onG hu))
  have HN0 := Lib.hid (fun (hc : cfgB x.cg = false) => gnew_no h.rc hc)
  have HN1 := Lib.hid (fun (hc : cfgB x.cg = true) => gnew_yes h.rc hc)
  have HR0 := Lib.hid (fun (hc : cfgB x.cg = false) => rgnew_no h.rc hc)
  have HR1 := Lib.hid (fun (hc : cfgB x.cg = true) => rgnew_yes h.rc hc)
  have HGO := Lib.hid (fun u (hu : Below w.heap.size w u) => ggreat_ok B lo0 d u (ho.on hu))
  have HOP := Lib.hid ho
  obtain ⟨C, hC⟩ : ∃ C, cfgB x.cg = C := ⟨_, rfl⟩
  simp only [hC] at HN0 HN1 HR0 HR1
  obtain ⟨tn, htn⟩ : ∃ tn, x.cg.tens = tn := ⟨_, rfl⟩
  rw [htn] at HN1 HR1
  obtain ⟨Q, hQ⟩ : ∃ Q : Rq, (⟨x.wait, x.grace, x.idle, x.lease, x.A, x.ts.length, x.c, x.ts⟩ : Rq) = Q := ⟨_, rfl⟩
  rw [hQ] at HR1
  obtain ⟨a0, a1, a2, a3, ts, A, c⟩ := x
  obtain ⟨n, hn⟩ : ∃ n, ts.length = n := ⟨_, rfl⟩
  simp only [ccs, hn] at HGR HN0 HN1 HR0 HR1 ⊢
  have HX := Lib.hid (show Bx w w.heap.size 24 #[.int .i64 a0, .int .i64 a1, .int .i64 a2, .int .i64 a3, .slice A n c] (w.alloc (.cells #[.int .i64 a0, .int .i64 a1, .int .i64 a2, .int .i64 a3, .slice A n c] 24)) from Bx.new w _ _)
  clear h hn hC htn hQ
  obtain ⟨nl, hnl⟩ : ∃ k, lo0.length = k := ⟨_, rfl⟩
  have HNL := Lib.hid hnl
  have hnl47 : nl ≤ 140737488355328 := by rw [← hnl]; exact ho.n
  rw [hnl] at HGO ⊢
  clear hnl ho
  go_enter Try.func3, Try.ntmps3
  go_upto_region 2 with (go_at_call 9; refine (ghead_ok _).mono ?_; rintro e u1 ⟨rfl, hb⟩; have HX1 := Lib.hid (HX.out.on hb); clear hb)
  obtain ⟨g0, hg0⟩ : ∃ g, w.heap.size = g := ⟨_, rfl⟩
  have HG0 := Lib.hid hg0
  rw [hg0] at HX1 ⊢
  clear hg0
  have e0 : u1.cell? ⟨g0, 0, none⟩ = some (.int .i64 a0) := HX1.out.b.cell 0
  have e1 : u1.cell? ⟨g0, 1, none⟩ = some (.int .i64 a1) := HX1.out.b.cell 1
  have e2 : u1.cell? ⟨g0, 2, none⟩ = some (.int .i64 a2) := HX1.out.b.cell 2
  have e3 : u1.cell? ⟨g0, 3, none⟩ = some (.int .i64 a3) := HX1.out.b.cell 3
  have e4 : u1.cell? ⟨g0, 4, none⟩ = some (.slice A n c) := HX1.out.b.cell 4
  go_upto_region 4 with (first
    | (go_at_call 10; (with_reducible refine (HGR.out _ HX1.out.l).mono ?_); rintro e u2 ⟨gr, rfl, _, hb⟩; have HX2 := Lib.hid (HX1.out.on hb); clear hb; clear e0 e1 e2 e3 e4; have e0 : u2.cell? ⟨g0, 0, none⟩ = some (.int .i64 a0) := HX2.out.b.cell 0; have e1 : u2.cell? ⟨g0, 1, none⟩ = some (.int .i64 a1) := HX2.out.b.cell 1; have e2 : u2.cell? ⟨g0, 2, none⟩ = some (.int .i64 a2) := HX2.out.b.cell 2; have e3 : u2.cell? ⟨g0, 3, none⟩ = some (.int .i64 a3) := HX2.out.b.cell 3; have e4 : u2.cell? ⟨g0, 4, none⟩ = some (.slice A n c) := HX2.out.b.cell 4; cases gr)
    | (go_at_call 11; (with_reducible refine (HGO.out _ HX2.out.l).mono ?_); rintro e u3 ⟨gr2, rfl, hob, hb⟩; have HX3 := Lib.hid (HX2.out.on hb); have HOB := Lib.hid hob; clear hb hob; clear e0 e1 e2 e3 e4; have e0 : u3.cell? ⟨g0, 0, none⟩ = some (.int .i64 a0) := HX3.out.b.cell 0; have e1 : u3.cell? ⟨g0, 1, none⟩ = some (.int .i64 a1) := HX3.out.b.cell 1; have e2 : u3.cell? ⟨g0, 2, none⟩ = some (.int .i64 a2) := HX3.out.b.cell 2; have e3 : u3.cell? ⟨g0, 3, none⟩ = some (.int .i64 a3) := HX3.out.b.cell 3; have e4 : u3.cell? ⟨g0, 4, none⟩ = some (.slice A n c) := HX3.out.b.cell 4; cases gr2))
  any_goals (go_ret; first | exact ⟨rfl, HX2.out.l⟩ | exact ⟨rfl, HX3.out.l⟩)
  have hnb : nl ≤ 200 := by have := HOB.out (by first | rfl | trivial); rw [HNL.out] at this; exact this
  clear HOB HGR HGO
  cases C with
  | false =>
    go_wp2_with (first
      | (go_at_call 12; (with_reducible refine (HN0.out (by first | rfl | trivial) _ HX3.out.l).mono ?_); rintro e u4 ⟨rfl, hb⟩; have HX4 := Lib.hid (HX3.out.on hb); clear hb; clear e0 e1 e2 e3 e4; have e0 : u4.cell? ⟨g0, 0, none⟩ = some (.int .i64 a0) := HX4.out.b.cell 0; have e1 : u4.cell? ⟨g0, 1, none⟩ = some (.int .i64 a1) := HX4.out.b.cell 1; have e2 : u4.cell? ⟨g0, 2, none⟩ = some (.int .i64 a2) := HX4.out.b.cell 2; have e3 : u4.cell? ⟨g0, 3, none⟩ = some (.int .i64 a3) := HX4.out.b.cell 3; have e4 : u4.cell? ⟨g0, 4, none⟩ = some (.slice A n c) := HX4.out.b.cell 4)
      | (go_at_call 13; (with_reducible refine (HR0.out (by first | rfl | trivial) _ HX4.out.l).mono ?_); rintro e u5 ⟨rfl, hb⟩; have HX5 := Lib.hid (HX4.out.on hb); clear hb))
    go_ret
    exact ⟨by first | rfl | simp, HX5.out.l⟩
  | true =>
    have HL0 := Lib.hid (show Lg w tn [] [(g0, 24, #[.int .i64 a0, .int .i64 a1, .int .i64 a2, .int .i64 a3, .slice A n c])] u3 from ⟨(fun G hG => by cases hG), .nil, (fun b hb => by obtain rfl := List.mem_singleton.1 hb; exact ⟨HX3.out.b, gcfg_ne⟩), HX3.out.l⟩)
    go_upto_region 5 with (go_at_call 12; (with_reducible refine (HN1.out (by first | rfl | trivial) _ _ _ HL0.out).mono ?_); rintro e u4 ⟨g, mb, lo, hi, gs, rfl, hv⟩; have HV4 := Lib.hid hv; clear hv)
    clear e0 e1 e2 e3 e4
    have e0 : u4.cell? ⟨g0, 0, none⟩ = some (.int .i64 a0) := HV4.out.head.cell 0
    have e1 : u4.cell? ⟨g0, 1, none⟩ = some (.int .i64 a1) := HV4.out.head.cell 1
    have e2 : u4.cell? ⟨g0, 2, none⟩ = some (.int .i64 a2) := HV4.out.head.cell 2
    have e3 : u4.cell? ⟨g0, 3, none⟩ = some (.int .i64 a3) := HV4.out.head.cell 3
    have e4 : u4.cell? ⟨g0, 4, none⟩ = some (.slice A n c) := HV4.out.head.cell 4
    go_upto_region 6 with (go_at_call 13; (with_reducible refine (HR1.out (by first | rfl | trivial) _ _ _ HV4.out).mono ?_); rintro e u5 ⟨rb, bn, bv, rfl, hph, hv⟩; have HV5 := Lib.hid hv; have HPH := Lib.hid hph; clear hv hph)
    clear e0 e1 e2 e3 e4 HN0 HN1 HR0 HR1
    obtain ⟨wb, hwb⟩ : ∃ wb, u5 = wb := ⟨_, rfl⟩
    rw [hwb] at HV5 ⊢
    clear hwb
    go_wp2_with fail
    go_loopw [8] (fun v8 wr => ∃ (i : Nat) (U : Us), i ≤ nl ∧ v8 = .int .i64 (i : Int) ∧ Hid (Lg w tn [⟨g, mb, lo, hi, gs, U⟩] (rlb rb bn bv Q U ++ [(g0, 24, #[.int .i64 a0, .int .i64 a1, .int .i64 a2, .int .i64 a3, .slice A n c])]) wr)) (fun v8 _ => nl - (intOf v8).toNat)
    case atStart => exact ⟨0, U0, by omega, rfl, HV5⟩
    case round =>
      obtain ⟨i, U, hi0, rfl, HV⟩ := hrel
      by_cases hi1 : i < nl
      · have hi2 : (i : Int) < (nl : Int) := by omega
        obtain ⟨b, o, x, rfl, hx, hsm, hc⟩ := HOP.out.at4 i (by rw [HNL.out]; exact hi1)
        obtain ⟨c0, c1, c2, c3⟩ := hc wr HV.out.l
        obtain ⟨xw, xt, xk, xa⟩ := x
        dsimp only at c0 c1 c2 c3
        have HSM := Lib.hid hsm
        have HLIM := Lib.hid HV.out.lim
        have HL8 := Lib.hid (show ∀ a j, U a j ≤ 8 from fun a j => HV.out.le8 a j)
        clear hc hx hsm
        go_upto_region 12 with fail
        clear c0 c1 c2 c3
        have HV0 := Lib.hid (HV.out.new 35 #[.int .i64 xw, .string xt, .int .i64 xk, .int .u32 (xa : Int)] (by decide))
        obtain ⟨v0, hv0⟩ : ∃ v, wr.alloc (.cells #[.int .i64 xw, .string xt, .int .i64 xk, .int .u32 (xa : Int)] 35) = v := ⟨_, rfl⟩
        obtain ⟨nb, hnb2⟩ : ∃ nb, wr.heap.size = nb := ⟨_, rfl⟩
        rw [hv0] at HV0 ⊢
        rw [hnb2] at HV0 ⊢
        clear hv0 hnb2
        have HVN := Lib.hid (show Lg w tn [⟨g, mb, lo, hi, gs, U⟩] (rlb rb bn bv Q U ++ ((nb, 35, #[.int .i64 xw, .string xt, .int .i64 xk, .int .u32 (xa : Int)]) :: [(g0, 24, #[.int .i64 a0, .int .i64 a1, .int .i64 a2, .int .i64 a3, .slice A n c])])) v0 from HV0.out.less (fun b hb => by
          simp only [List.mem_append, List.mem_cons] at hb ⊢
          rcases hb with hb | hb | hb
          · exact .inr (.inl hb)
          · exact .inl hb
          · exact .inr (.inr hb)))
        have HLL := Lib.hid (show ∀ b ∈ (((nb, 35, #[.int .i64 xw, .string xt, .int .i64 xk, .int .u32 (xa : Int)]) :: [(g0, 24, #[.int .i64 a0, .int .i64 a1, .int .i64 a2, .int .i64 a3, .slice A n c])]) : List (Nat × TypeId × Array Value)), b.2.1 ≠ 3 from fun b hb => by
          simp only [List.mem_cons, List.not_mem_nil, or_false] at hb
          rcases hb with rfl | rfl
          · exact gop_int
          · exact gcf_int)
        have HOPB := Lib.hid (show ∀ U2 V2 y, Lg w tn [⟨g, mb, lo, hi, gs, U2⟩] (rlb rb bn bv Q V2 ++ ((nb, 35, #[.int .i64 xw, .string xt, .int .i64 xk, .int .u32 (xa : Int)]) :: [(g0, 24, #[.int .i64 a0, .int .i64 a1, .int .i64 a2, .int .i64 a3, .slice A n c])])) y → Bk y nb 35 #[.int .i64 xw, .string xt, .int .i64 xk, .int .u32 (xa : Int)] from fun U2 V2 y hy => hy.bk (List.mem_append_right _ (List.mem_cons_self ..)))
        have d0 : v0.cell? ⟨nb, 0, none⟩ = some (.int .i64 xw) := (HOPB.out _ _ _ HVN.out).cell 0
        have d1 : v0.cell? ⟨nb, 1, none⟩ = some (.string xt) := (HOPB.out _ _ _ HVN.out).cell 1
        have d2 : v0.cell? ⟨nb, 2, none⟩ = some (.int .i64 xk) := (HOPB.out _ _ _ HVN.out).cell 2
        have d3 : v0.cell? ⟨nb, 3, none⟩ = some (.int .u32 (xa : Int)) := (HOPB.out _ _ _ HVN.out).cell 3
        by_cases hw : xw = 2
        · have hw2 : (xw == 2) = true := by rw [beq_iff_eq]; exact hw
          clear hw
          obtain ⟨E, hE⟩ : ∃ E, gvB U xt xk = E := ⟨_, rfl⟩
          obtain ⟨U2, hU2⟩ : ∃ U2, gvU U xt xk = U2 := ⟨_, rfl⟩
          have hEE : (E != E) = false := bne_self_eq_false E
          have HC1 := Lib.hid (show ∀ u, Lg w tn [⟨g, mb, lo, hi, gs, U⟩] (rlb rb bn bv Q U ++ ((nb, 35, #[.int .i64 xw, .string xt, .int .i64 xk, .int .u32 (xa : Int)]) :: [(g0, 24, #[.int .i64 a0, .int .i64 a1, .int .i64 a2, .int .i64 a3, .slice A n c])])) u → Calls Try.prog 14 #[.pointer (some ⟨g, 0, none⟩), .string xt, .int .i64 xk] u fun e u' => e = .returned (.bool E) ∧ Lg w tn [⟨g, mb, lo, hi, gs, U2⟩] (rlb rb bn bv Q U ++ ((nb, 35, #[.int .i64 xw, .string xt, .int .i64 xk, .int .u32 (xa : Int)]) :: [(g0, 24, #[.int .i64 a0, .int .i64 a1, .int .i64 a2, .int .i64 a3, .slice A n c])])) u' from fun u hu => by have := lg_give hu xt xk HSM.out.1; rwa [hE, hU2] at this)
          have HC2 := Lib.hid (show ∀ u, Lg w tn [⟨g, mb, lo, hi, gs, U2⟩] (rlb rb bn bv Q U ++ ((nb, 35, #[.int .i64 xw, .string xt, .int .i64 xk, .int .u32 (xa : Int)]) :: [(g0, 24, #[.int .i64 a0, .int .i64 a1, .int .i64 a2, .int .i64 a3, .slice A n c])])) u → Calls Try.prog 15 #[.pointer (some ⟨rb, 0, none⟩), .string xt, .int .i64 xk] u fun e u' => e = .returned (.bool E) ∧ Lg w tn [⟨g, mb, lo, hi, gs, U2⟩] (rlb rb bn bv Q U2 ++ ((nb, 35, #[.int .i64 xw, .string xt, .int .i64 xk, .int .u32 (xa : Int)]) :: [(g0, 24, #[.int .i64 a0, .int .i64 a1, .int .i64 a2, .int .i64 a3, .slice A n c])])) u' from fun u hu => by have := pl_give HPH.out hu HLL.out HLIM.out HL8.out xt xk; rwa [hE, hU2] at this)
          clear hE hU2
          go_upto_region 25 with (first
            | (go_at_call 14; (with_reducible refine (HC1.out _ HVN.out).mono ?_); rintro e u6 ⟨rfl, hv⟩; have HV6 := Lib.hid hv; clear hv; clear d0 d1 d2 d3; have d1 : u6.cell? ⟨nb, 1, none⟩ = some (.string xt) := (HOPB.out _ _ _ HV6.out).cell 1; have d2 : u6.cell? ⟨nb, 2, none⟩ = some (.int .i64 xk) := (HOPB.out _ _ _ HV6.out).cell 2)
            | (go_at_call 15; (with_reducible refine (HC2.out _ HV6.out).mono ?_); rintro e u7 ⟨rfl, hv⟩; have HX := Lib.hid hv; clear hv d1 d2))
          obtain ⟨n1, h1⟩ : ∃ n1, U2 xt xk = n1 := ⟨_, rfl⟩
          have HN1 := Lib.hid h1
          clear h1
          have hn1 : ((n1 : Int) != (n1 : Int)) = false := bne_self_eq_false _
          have HLM2 := Lib.hid HX.out.lim
          try simp only [List.cons_append, List.nil_append]
          refine wp_region_held_drew (S := fun wz => Bk wz nb 35 #[.int .i64 xw, .string xt, .int .i64 xk, .int .u32 (xa : Int)]) (by kernel_rfl) ((HOPB.out _ _ _ HX.out).drew) (fun hHeld => ?_)
          refine take_at (some 99) (i := 0) (v := ?_) rfl rfl (by kernel_rfl) (by kernel_rfl) (by kernel_rfl) (fun _ _ _ h => h) (Or.inl ⟨by kernel_rfl, ?_⟩) hHeld ?_
          rotate_left
          · intro wz hSw; have m1 : wz.cell? ⟨nb, 1, none⟩ = some (.string xt) := hSw.cell 1; have m2 : wz.cell? ⟨nb, 2, none⟩ = some (.int .i64 xk) := hSw.cell 2; have m3 : wz.cell? ⟨nb, 3, none⟩ = some (.int .u32 (xa : Int)) := hSw.cell 3; go_simp; try (with_reducible rfl)
          try simp only [Act.put, List.setIfInBounds_toArray, List.set_cons_zero, List.set_cons_succ, List.getElem_toArray, List.getElem_cons_succ, List.getElem_cons_zero]
          refine take_at (some 100) (i := 1) (v := ?_) rfl rfl (by kernel_rfl) (by kernel_rfl) (by kernel_rfl) (fun _ _ _ h => h) (Or.inl ⟨by kernel_rfl, ?_⟩) hHeld ?_
          rotate_left
          · intro wz hSw; have m1 : wz.cell? ⟨nb, 1, none⟩ = some (.string xt) := hSw.cell 1; have m2 : wz.cell? ⟨nb, 2, none⟩ = some (.int .i64 xk) := hSw.cell 2; have m3 : wz.cell? ⟨nb, 3, none⟩ = some (.int .u32 (xa : Int)) := hSw.cell 3; go_simp; try (with_reducible rfl)
          try simp only [Act.put, List.setIfInBounds_toArray, List.set_cons_zero, List.set_cons_succ, List.getElem_toArray, List.getElem_cons_succ, List.getElem_cons_zero]
          refine take_at (some 101) (i := 2) (v := ?_) rfl rfl (by kernel_rfl) (by kernel_rfl) (by kernel_rfl) (fun _ _ _ h => h) (Or.inl ⟨by kernel_rfl, ?_⟩) hHeld ?_
          rotate_left
          · intro wz hSw; have m1 : wz.cell? ⟨nb, 1, none⟩ = some (.string xt) := hSw.cell 1; have m2 : wz.cell? ⟨nb, 2, none⟩ = some (.int .i64 xk) := hSw.cell 2; have m3 : wz.cell? ⟨nb, 3, none⟩ = some (.int .u32 (xa : Int)) := hSw.cell 3; go_simp; try (with_reducible rfl)
          try simp only [Act.put, List.setIfInBounds_toArray, List.set_cons_zero, List.set_cons_succ, List.getElem_toArray, List.getElem_cons_succ, List.getElem_cons_zero]
          refine take_at (some 102) (i := 3) (v := ?_) rfl rfl (by kernel_rfl) (by kernel_rfl) (by kernel_rfl) (fun _ _ _ h => h) (Or.inl ⟨by kernel_rfl, ?_⟩) hHeld ?_
          rotate_left
          · intro wz hSw; have m1 : wz.cell? ⟨nb, 1, none⟩ = some (.string xt) := hSw.cell 1; have m2 : wz.cell? ⟨nb, 2, none⟩ = some (.int .i64 xk) := hSw.cell 2; have m3 : wz.cell? ⟨nb, 3, none⟩ = some (.int .u32 (xa : Int)) := hSw.cell 3; go_simp; try (with_reducible rfl)
          try simp only [Act.put, List.setIfInBounds_toArray, List.set_cons_zero, List.set_cons_succ, List.getElem_toArray, List.getElem_cons_succ, List.getElem_cons_zero]
          refine take_at (some 103) (i := 4) (v := ?_) rfl rfl (by kernel_rfl) (by kernel_rfl) (by kernel_rfl) (fun _ _ _ h => h) (Or.inl ⟨by kernel_rfl, ?_⟩) hHeld ?_
          rotate_left
          · intro wz hSw; have m1 : wz.cell? ⟨nb, 1, none⟩ = some (.string xt) := hSw.cell 1; have m2 : wz.cell? ⟨nb, 2, none⟩ = some (.int .i64 xk) := hSw.cell 2; have m3 : wz.cell? ⟨nb, 3, none⟩ = some (.int .u32 (xa : Int)) := hSw.cell 3; go_simp; try (with_reducible rfl)
          try simp only [Act.put, List.setIfInBounds_toArray, List.set_cons_zero, List.set_cons_succ, List.getElem_toArray, List.getElem_cons_succ, List.getElem_cons_zero]
          refine take_at (some 105) (i := 6) (v := ?_) rfl rfl (by kernel_rfl) (by kernel_rfl) (by kernel_rfl) (fun _ _ _ h => h) (Or.inl ⟨by kernel_rfl, ?_⟩) hHeld ?_
          rotate_left
          · intro wz hSw; have m1 : wz.cell? ⟨nb, 1, none⟩ = some (.string xt) := hSw.cell 1; have m2 : wz.cell? ⟨nb, 2, none⟩ = some (.int .i64 xk) := hSw.cell 2; have m3 : wz.cell? ⟨nb, 3, none⟩ = some (.int .u32 (xa : Int)) := hSw.cell 3; go_simp; try (with_reducible rfl)
          try simp only [Act.put, List.setIfInBounds_toArray, List.set_cons_zero, List.set_cons_succ, List.getElem_toArray, List.getElem_cons_succ, List.getElem_cons_zero]
          refine take_at (some 106) (i := 7) (v := ?_) rfl rfl (by kernel_rfl) (by kernel_rfl) (by kernel_rfl) (fun _ _ _ h => h) (Or.inl ⟨by kernel_rfl, ?_⟩) hHeld ?_
          rotate_left
          · intro wz hSw; have m1 : wz.cell? ⟨nb, 1, none⟩ = some (.string xt) := hSw.cell 1; have m2 : wz.cell? ⟨nb, 2, none⟩ = some (.int .i64 xk) := hSw.cell 2; have m3 : wz.cell? ⟨nb, 3, none⟩ = some (.int .u32 (xa : Int)) := hSw.cell 3; go_simp; try (with_reducible rfl)
          try simp only [Act.put, List.setIfInBounds_toArray, List.set_cons_zero, List.set_cons_succ, List.getElem_toArray, List.getElem_cons_succ, List.getElem_cons_zero]
          refine take_at (some 107) (i := 8) (v := ?_) rfl rfl (by kernel_rfl) (by kernel_rfl) (by kernel_rfl) (fun _ _ _ h => h) (Or.inl ⟨by kernel_rfl, ?_⟩) hHeld ?_
          rotate_left
          · intro wz hSw; have m1 : wz.cell? ⟨nb, 1, none⟩ = some (.string xt) := hSw.cell 1; have m2 : wz.cell? ⟨nb, 2, none⟩ = some (.int .i64 xk) := hSw.cell 2; have m3 : wz.cell? ⟨nb, 3, none⟩ = some (.int .u32 (xa : Int)) := hSw.cell 3; go_simp; try (with_reducible rfl)
          try simp only [Act.put, List.setIfInBounds_toArray, List.set_cons_zero, List.set_cons_succ, List.getElem_toArray, List.getElem_cons_succ, List.getElem_cons_zero]
          refine take_at (some 108) (i := 9) (v := ?_) rfl rfl (by kernel_rfl) (by kernel_rfl) (by kernel_rfl) (fun _ _ _ h => h) (Or.inl ⟨by kernel_rfl, ?_⟩) hHeld ?_
          rotate_left
          · intro wz hSw; have m1 : wz.cell? ⟨nb, 1, none⟩ = some (.string xt) := hSw.cell 1; have m2 : wz.cell? ⟨nb, 2, none⟩ = some (.int .i64 xk) := hSw.cell 2; have m3 : wz.cell? ⟨nb, 3, none⟩ = some (.int .u32 (xa : Int)) := hSw.cell 3; go_simp; try (with_reducible rfl)
          try simp only [Act.put, List.setIfInBounds_toArray, List.set_cons_zero, List.set_cons_succ, List.getElem_toArray, List.getElem_cons_succ, List.getElem_cons_zero]
          refine take_at (some 109) (i := 10) (v := ?_) rfl rfl (by kernel_rfl) (by kernel_rfl) (by kernel_rfl) (fun _ _ _ h => h) (Or.inl ⟨by kernel_rfl, ?_⟩) hHeld ?_
          rotate_left
          · intro wz hSw; have m1 : wz.cell? ⟨nb, 1, none⟩ = some (.string xt) := hSw.cell 1; have m2 : wz.cell? ⟨nb, 2, none⟩ = some (.int .i64 xk) := hSw.cell 2; have m3 : wz.cell? ⟨nb, 3, none⟩ = some (.int .u32 (xa : Int)) := hSw.cell 3; go_simp; try (with_reducible rfl)
          try simp only [Act.put, List.setIfInBounds_toArray, List.set_cons_zero, List.set_cons_succ, List.getElem_toArray, List.getElem_cons_succ, List.getElem_cons_zero]
          have HXD := Lib.hid (HX.out.on (Below.refl _ _).drew)
          refine wpAnyH_ready (rs := [5]) (by kernel_rfl) (by simp) (AllReadyH.cons rfl (fun K hK => ?_) AllReadyH.nil)
          rw [if_pos (by kernel_rfl)]
          go_simp
          refine (lg_used HXD.out xt xk HSM.out.1).mono ?_
          rintro e y1 ⟨rfl, hy1⟩
          try rw [HN1.out]
          try dsimp only
          refine hK.out _ _ (HOPB.out _ _ _ hy1) (fun hHeld => ?_)
          try simp only [Act.put, List.setIfInBounds_toArray, List.set_cons_zero, List.set_cons_succ, List.getElem_toArray, List.getElem_cons_succ, List.getElem_cons_zero]
          refine wpAnyH_ready (rs := [11]) (by kernel_rfl) (by simp) (AllReadyH.cons rfl (fun K hK => ?_) AllReadyH.nil)
          rw [if_pos (by kernel_rfl)]
          go_simp
          refine (pl_used HPH.out hy1 HLM2.out xt xk).mono ?_
          rintro e y2 ⟨rfl, hy2⟩
          try rw [HN1.out]
          try dsimp only
          refine hK.out _ _ (HOPB.out _ _ _ hy2) (fun hHeld => ?_)
          try simp only [Act.put, List.setIfInBounds_toArray, List.set_cons_zero, List.set_cons_succ, List.getElem_toArray, List.getElem_cons_succ, List.getElem_cons_zero]
          refine take_at (some 111) (i := 12) (v := ?_) rfl rfl (by kernel_rfl) (by kernel_rfl) (by kernel_rfl) (fun _ _ _ h => h) (Or.inl ⟨by kernel_rfl, ?_⟩) hHeld ?_
          rotate_left
          · intro wz hSw; have m1 : wz.cell? ⟨nb, 1, none⟩ = some (.string xt) := hSw.cell 1; have m2 : wz.cell? ⟨nb, 2, none⟩ = some (.int .i64 xk) := hSw.cell 2; have m3 : wz.cell? ⟨nb, 3, none⟩ = some (.int .u32 (xa : Int)) := hSw.cell 3; go_simp; try (with_reducible rfl)
          try simp only [Act.put, List.setIfInBounds_toArray, List.set_cons_zero, List.set_cons_succ, List.getElem_toArray, List.getElem_cons_succ, List.getElem_cons_zero]
          refine wpAnyH_done (by kernel_rfl) ?_ _
          refine gen_qP (fun y => Lg w tn [⟨g, mb, lo, hi, gs, U2⟩] (rlb rb bn bv Q U2 ++ ((nb, 35, #[.int .i64 xw, .string xt, .int .i64 xk, .int .u32 (xa : Int)]) :: [(g0, 24, #[.int .i64 a0, .int .i64 a1, .int .i64 a2, .int .i64 a3, .slice A n c])])) y) hy2 (fun yy hyy => ?_)
          clear hHeld hy1 hy2 HXD HX
          have HX := Lib.hid hyy
          clear hyy
          go_wp2
          go_roundw
          case rel => exact ⟨i + 1, U2, by omega, by go_num, Lib.hid (HX.out.less (fun b hb => by simp only [List.mem_append, List.mem_cons] at hb ⊢; rcases hb with hb | hb; exact .inl hb; exact .inr (.inr hb)))⟩
          case measure => simp [intOf]; omega
        · have hw2 : (xw == 2) = false := by rw [beq_eq_false_iff_ne]; exact hw
          by_cases hz : xw = 3
          · have hz2 : (xw == 3) = true := by rw [beq_iff_eq]; exact hz
            clear hw hz
            go_upto_region 23 with fail
            clear d0 d1 d2 d3
            obtain ⟨E, hE⟩ : ∃ E, adI (gtF tn xt) xa = E := ⟨_, rfl⟩
            have HEA := Lib.hid hE
            clear hE
            have hEE : (E != E) = false := bne_self_eq_false E
            try simp only [List.cons_append, List.nil_append]
            refine wp_region_held_drew (S := fun wz => Bk wz nb 35 #[.int .i64 xw, .string xt, .int .i64 xk, .int .u32 (xa : Int)]) (by kernel_rfl) ((HOPB.out _ _ _ HVN.out).drew) (fun hHeld => ?_)
            refine take_at (some 86) (i := 0) (v := ?_) rfl rfl (by kernel_rfl) (by kernel_rfl) (by kernel_rfl) (fun _ _ _ h => h) (Or.inl ⟨by kernel_rfl, ?_⟩) hHeld ?_
            rotate_left
            · intro wz hSw; have m1 : wz.cell? ⟨nb, 1, none⟩ = some (.string xt) := hSw.cell 1; have m2 : wz.cell? ⟨nb, 2, none⟩ = some (.int .i64 xk) := hSw.cell 2; have m3 : wz.cell? ⟨nb, 3, none⟩ = some (.int .u32 (xa : Int)) := hSw.cell 3; go_simp; try (with_reducible rfl)
            try simp only [Act.put, List.setIfInBounds_toArray, List.set_cons_zero, List.set_cons_succ, List.getElem_toArray, List.getElem_cons_succ, List.getElem_cons_zero]
            refine take_at (some 87) (i := 1) (v := ?_) rfl rfl (by kernel_rfl) (by kernel_rfl) (by kernel_rfl) (fun _ _ _ h => h) (Or.inl ⟨by kernel_rfl, ?_⟩) hHeld ?_
            rotate_left
            · intro wz hSw; have m1 : wz.cell? ⟨nb, 1, none⟩ = some (.string xt) := hSw.cell 1; have m2 : wz.cell? ⟨nb, 2, none⟩ = some (.int .i64 xk) := hSw.cell 2; have m3 : wz.cell? ⟨nb, 3, none⟩ = some (.int .u32 (xa : Int)) := hSw.cell 3; go_simp; try (with_reducible rfl)
            try simp only [Act.put, List.setIfInBounds_toArray, List.set_cons_zero, List.set_cons_succ, List.getElem_toArray, List.getElem_cons_succ, List.getElem_cons_zero]
            refine take_at (some 88) (i := 2) (v := ?_) rfl rfl (by kernel_rfl) (by kernel_rfl) (by kernel_rfl) (fun _ _ _ h => h) (Or.inl ⟨by kernel_rfl, ?_⟩) hHeld ?_
            rotate_left
            · intro wz hSw; have m1 : wz.cell? ⟨nb, 1, none⟩ = some (.string xt) := hSw.cell 1; have m2 : wz.cell? ⟨nb, 2, none⟩ = some (.int .i64 xk) := hSw.cell 2; have m3 : wz.cell? ⟨nb, 3, none⟩ = some (.int .u32 (xa : Int)) := hSw.cell 3; go_simp; try (with_reducible rfl)
            try simp only [Act.put, List.setIfInBounds_toArray, List.set_cons_zero, List.set_cons_succ, List.getElem_toArray, List.getElem_cons_succ, List.getElem_cons_zero]
            refine take_at (some 89) (i := 3) (v := ?_) rfl rfl (by kernel_rfl) (by kernel_rfl) (by kernel_rfl) (fun _ _ _ h => h) (Or.inl ⟨by kernel_rfl, ?_⟩) hHeld ?_
            rotate_left
            · intro wz hSw; have m1 : wz.cell? ⟨nb, 1, none⟩ = some (.string xt) := hSw.cell 1; have m2 : wz.cell? ⟨nb, 2, none⟩ = some (.int .i64 xk) := hSw.cell 2; have m3 : wz.cell? ⟨nb, 3, none⟩ = some (.int .u32 (xa : Int)) := hSw.cell 3; go_simp; try (with_reducible rfl)
            try simp only [Act.put, List.setIfInBounds_toArray, List.set_cons_zero, List.set_cons_succ, List.getElem_toArray, List.getElem_cons_succ, List.getElem_cons_zero]
            refine take_at (some 90) (i := 4) (v := ?_) rfl rfl (by kernel_rfl) (by kernel_rfl) (by kernel_rfl) (fun _ _ _ h => h) (Or.inl ⟨by kernel_rfl, ?_⟩) hHeld ?_
            rotate_left
            · intro wz hSw; have m1 : wz.cell? ⟨nb, 1, none⟩ = some (.string xt) := hSw.cell 1; have m2 : wz.cell? ⟨nb, 2, none⟩ = some (.int .i64 xk) := hSw.cell 2; have m3 : wz.cell? ⟨nb, 3, none⟩ = some (.int .u32 (xa : Int)) := hSw.cell 3; go_simp; try (with_reducible rfl)
            try simp only [Act.put, List.setIfInBounds_toArray, List.set_cons_zero, List.set_cons_succ, List.getElem_toArray, List.getElem_cons_succ, List.getElem_cons_zero]
            refine take_at (some 92) (i := 6) (v := ?_) rfl rfl (by kernel_rfl) (by kernel_rfl) (by kernel_rfl) (fun _ _ _ h => h) (Or.inl ⟨by kernel_rfl, ?_⟩) hHeld ?_
            rotate_left
            · intro wz hSw; have m1 : wz.cell? ⟨nb, 1, none⟩ = some (.string xt) := hSw.cell 1; have m2 : wz.cell? ⟨nb, 2, none⟩ = some (.int .i64 xk) := hSw.cell 2; have m3 : wz.cell? ⟨nb, 3, none⟩ = some (.int .u32 (xa : Int)) := hSw.cell 3; go_simp; try (with_reducible rfl)
            try simp only [Act.put, List.setIfInBounds_toArray, List.set_cons_zero, List.set_cons_succ, List.getElem_toArray, List.getElem_cons_succ, List.getElem_cons_zero]
            refine take_at (some 93) (i := 7) (v := ?_) rfl rfl (by kernel_rfl) (by kernel_rfl) (by kernel_rfl) (fun _ _ _ h => h) (Or.inl ⟨by kernel_rfl, ?_⟩) hHeld ?_
            rotate_left
            · intro wz hSw; have m1 : wz.cell? ⟨nb, 1, none⟩ = some (.string xt) := hSw.cell 1; have m2 : wz.cell? ⟨nb, 2, none⟩ = some (.int .i64 xk) := hSw.cell 2; have m3 : wz.cell? ⟨nb, 3, none⟩ = some (.int .u32 (xa : Int)) := hSw.cell 3; go_simp; try (with_reducible rfl)
            try simp only [Act.put, List.setIfInBounds_toArray, List.set_cons_zero, List.set_cons_succ, List.getElem_toArray, List.getElem_cons_succ, List.getElem_cons_zero]
            refine take_at (some 94) (i := 8) (v := ?_) rfl rfl (by kernel_rfl) (by kernel_rfl) (by kernel_rfl) (fun _ _ _ h => h) (Or.inl ⟨by kernel_rfl, ?_⟩) hHeld ?_
            rotate_left
            · intro wz hSw; have m1 : wz.cell? ⟨nb, 1, none⟩ = some (.string xt) := hSw.cell 1; have m2 : wz.cell? ⟨nb, 2, none⟩ = some (.int .i64 xk) := hSw.cell 2; have m3 : wz.cell? ⟨nb, 3, none⟩ = some (.int .u32 (xa : Int)) := hSw.cell 3; go_simp; try (with_reducible rfl)
            try simp only [Act.put, List.setIfInBounds_toArray, List.set_cons_zero, List.set_cons_succ, List.getElem_toArray, List.getElem_cons_succ, List.getElem_cons_zero]
            refine take_at (some 95) (i := 9) (v := ?_) rfl rfl (by kernel_rfl) (by kernel_rfl) (by kernel_rfl) (fun _ _ _ h => h) (Or.inl ⟨by kernel_rfl, ?_⟩) hHeld ?_
            rotate_left
            · intro wz hSw; have m1 : wz.cell? ⟨nb, 1, none⟩ = some (.string xt) := hSw.cell 1; have m2 : wz.cell? ⟨nb, 2, none⟩ = some (.int .i64 xk) := hSw.cell 2; have m3 : wz.cell? ⟨nb, 3, none⟩ = some (.int .u32 (xa : Int)) := hSw.cell 3; go_simp; try (with_reducible rfl)
            try simp only [Act.put, List.setIfInBounds_toArray, List.set_cons_zero, List.set_cons_succ, List.getElem_toArray, List.getElem_cons_succ, List.getElem_cons_zero]
            refine take_at (some 96) (i := 10) (v := ?_) rfl rfl (by kernel_rfl) (by kernel_rfl) (by kernel_rfl) (fun _ _ _ h => h) (Or.inl ⟨by kernel_rfl, ?_⟩) hHeld ?_
            rotate_left
            · intro wz hSw; have m1 : wz.cell? ⟨nb, 1, none⟩ = some (.string xt) := hSw.cell 1; have m2 : wz.cell? ⟨nb, 2, none⟩ = some (.int .i64 xk) := hSw.cell 2; have m3 : wz.cell? ⟨nb, 3, none⟩ = some (.int .u32 (xa : Int)) := hSw.cell 3; go_simp; try (with_reducible rfl)
            try simp only [Act.put, List.setIfInBounds_toArray, List.set_cons_zero, List.set_cons_succ, List.getElem_toArray, List.getElem_cons_succ, List.getElem_cons_zero]
            have HXD := Lib.hid (HVN.out.on (Below.refl _ _).drew)
            refine wpAnyH_ready (rs := [5]) (by kernel_rfl) (by simp) (AllReadyH.cons rfl (fun K hK => ?_) AllReadyH.nil)
            rw [if_pos (by kernel_rfl)]
            go_simp
            refine (lg_admit HXD.out xt xa HSM.out.1 HSM.out.2).mono ?_
            rintro e y1 ⟨rfl, hy1⟩
            try rw [HEA.out]
            try dsimp only
            refine hK.out _ _ (HOPB.out _ _ _ hy1) (fun hHeld => ?_)
            try simp only [Act.put, List.setIfInBounds_toArray, List.set_cons_zero, List.set_cons_succ, List.getElem_toArray, List.getElem_cons_succ, List.getElem_cons_zero]
            refine wpAnyH_ready (rs := [11]) (by kernel_rfl) (by simp) (AllReadyH.cons rfl (fun K hK => ?_) AllReadyH.nil)
            rw [if_pos (by kernel_rfl)]
            go_simp
            refine (pl_admit HPH.out hy1 xt xa HSM.out.2).mono ?_
            rintro e y2 ⟨rfl, hy2⟩
            try rw [HEA.out]
            try dsimp only
            refine hK.out _ _ (HOPB.out _ _ _ hy2) (fun hHeld => ?_)
            try simp only [Act.put, List.setIfInBounds_toArray, List.set_cons_zero, List.set_cons_succ, List.getElem_toArray, List.getElem_cons_succ, List.getElem_cons_zero]
            refine take_at (some 98) (i := 12) (v := ?_) rfl rfl (by kernel_rfl) (by kernel_rfl) (by kernel_rfl) (fun _ _ _ h => h) (Or.inl ⟨by kernel_rfl, ?_⟩) hHeld ?_
            rotate_left
            · intro wz hSw; have m1 : wz.cell? ⟨nb, 1, none⟩ = some (.string xt) := hSw.cell 1; have m2 : wz.cell? ⟨nb, 2, none⟩ = some (.int .i64 xk) := hSw.cell 2; have m3 : wz.cell? ⟨nb, 3, none⟩ = some (.int .u32 (xa : Int)) := hSw.cell 3; go_simp; try (with_reducible rfl)
            try simp only [Act.put, List.setIfInBounds_toArray, List.set_cons_zero, List.set_cons_succ, List.getElem_toArray, List.getElem_cons_succ, List.getElem_cons_zero]
            refine wpAnyH_done (by kernel_rfl) ?_ _
            refine gen_qP (fun y => Lg w tn [⟨g, mb, lo, hi, gs, U⟩] (rlb rb bn bv Q U ++ ((nb, 35, #[.int .i64 xw, .string xt, .int .i64 xk, .int .u32 (xa : Int)]) :: [(g0, 24, #[.int .i64 a0, .int .i64 a1, .int .i64 a2, .int .i64 a3, .slice A n c])])) y) hy2 (fun yy hyy => ?_)
            clear hHeld hy1 hy2 HXD
            have HX := Lib.hid hyy
            clear hyy
            obtain ⟨U2, hU2⟩ : ∃ U2, U = U2 := ⟨_, rfl⟩
            rw [hU2] at HX
            clear hU2
            go_upto_region 25 with fail
            obtain ⟨n1, h1⟩ : ∃ n1, U2 xt xk = n1 := ⟨_, rfl⟩
            have HN1 := Lib.hid h1
            clear h1
            have hn1 : ((n1 : Int) != (n1 : Int)) = false := bne_self_eq_false _
            have HLM2 := Lib.hid HX.out.lim
            try simp only [List.cons_append, List.nil_append]
            refine wp_region_held_drew (S := fun wz => Bk wz nb 35 #[.int .i64 xw, .string xt, .int .i64 xk, .int .u32 (xa : Int)]) (by kernel_rfl) ((HOPB.out _ _ _ HX.out).drew) (fun hHeld => ?_)
            refine take_at (some 99) (i := 0) (v := ?_) rfl rfl (by kernel_rfl) (by kernel_rfl) (by kernel_rfl) (fun _ _ _ h => h) (Or.inl ⟨by kernel_rfl, ?_⟩) hHeld ?_
            rotate_left
            · intro wz hSw; have m1 : wz.cell? ⟨nb, 1, none⟩ = some (.string xt) := hSw.cell 1; have m2 : wz.cell? ⟨nb, 2, none⟩ = some (.int .i64 xk) := hSw.cell 2; have m3 : wz.cell? ⟨nb, 3, none⟩ = some (.int .u32 (xa : Int)) := hSw.cell 3; go_simp; try (with_reducible rfl)
            try simp only [Act.put, List.setIfInBounds_toArray, List.set_cons_zero, List.set_cons_succ, List.getElem_toArray, List.getElem_cons_succ, List.getElem_cons_zero]
            refine take_at (some 100) (i := 1) (v := ?_) rfl rfl (by kernel_rfl) (by kernel_rfl) (by kernel_rfl) (fun _ _ _ h => h) (Or.inl ⟨by kernel_rfl, ?_⟩) hHeld ?_
            rotate_left
            · intro wz hSw; have m1 : wz.cell? ⟨nb, 1, none⟩ = some (.string xt) := hSw.cell 1; have m2 : wz.cell? ⟨nb, 2, none⟩ = some (.int .i64 xk) := hSw.cell 2; have m3 : wz.cell? ⟨nb, 3, none⟩ = some (.int .u32 (xa : Int)) := hSw.cell 3; go_simp; try (with_reducible rfl)
            try simp only [Act.put, List.setIfInBounds_toArray, List.set_cons_zero, List.set_cons_succ, List.getElem_toArray, List.getElem_cons_succ, List.getElem_cons_zero]
            refine take_at (some 101) (i := 2) (v := ?_) rfl rfl (by kernel_rfl) (by kernel_rfl) (by kernel_rfl) (fun _ _ _ h => h) (Or.inl ⟨by kernel_rfl, ?_⟩) hHeld ?_
            rotate_left
            · intro wz hSw; have m1 : wz.cell? ⟨nb, 1, none⟩ = some (.string xt) := hSw.cell 1; have m2 : wz.cell? ⟨nb, 2, none⟩ = some (.int .i64 xk) := hSw.cell 2; have m3 : wz.cell? ⟨nb, 3, none⟩ = some (.int .u32 (xa : Int)) := hSw.cell 3; go_simp; try (with_reducible rfl)
            try simp only [Act.put, List.setIfInBounds_toArray, List.set_cons_zero, List.set_cons_succ, List.getElem_toArray, List.getElem_cons_succ, List.getElem_cons_zero]
            refine take_at (some 102) (i := 3) (v := ?_) rfl rfl (by kernel_rfl) (by kernel_rfl) (by kernel_rfl) (fun _ _ _ h => h) (Or.inl ⟨by kernel_rfl, ?_⟩) hHeld ?_
            rotate_left
            · intro wz hSw; have m1 : wz.cell? ⟨nb, 1, none⟩ = some (.string xt) := hSw.cell 1; have m2 : wz.cell? ⟨nb, 2, none⟩ = some (.int .i64 xk) := hSw.cell 2; have m3 : wz.cell? ⟨nb, 3, none⟩ = some (.int .u32 (xa : Int)) := hSw.cell 3; go_simp; try (with_reducible rfl)
            try simp only [Act.put, List.setIfInBounds_toArray, List.set_cons_zero, List.set_cons_succ, List.getElem_toArray, List.getElem_cons_succ, List.getElem_cons_zero]
            refine take_at (some 103) (i := 4) (v := ?_) rfl rfl (by kernel_rfl) (by kernel_rfl) (by kernel_rfl) (fun _ _ _ h => h) (Or.inl ⟨by kernel_rfl, ?_⟩) hHeld ?_
            rotate_left
            · intro wz hSw; have m1 : wz.cell? ⟨nb, 1, none⟩ = some (.string xt) := hSw.cell 1; have m2 : wz.cell? ⟨nb, 2, none⟩ = some (.int .i64 xk) := hSw.cell 2; have m3 : wz.cell? ⟨nb, 3, none⟩ = some (.int .u32 (xa : Int)) := hSw.cell 3; go_simp; try (with_reducible rfl)
            try simp only [Act.put, List.setIfInBounds_toArray, List.set_cons_zero, List.set_cons_succ, List.getElem_toArray, List.getElem_cons_succ, List.getElem_cons_zero]
            refine take_at (some 105) (i := 6) (v := ?_) rfl rfl (by kernel_rfl) (by kernel_rfl) (by kernel_rfl) (fun _ _ _ h => h) (Or.inl ⟨by kernel_rfl, ?_⟩) hHeld ?_
            rotate_left
            · intro wz hSw; have m1 : wz.cell? ⟨nb, 1, none⟩ = some (.string xt) := hSw.cell 1; have m2 : wz.cell? ⟨nb, 2, none⟩ = some (.int .i64 xk) := hSw.cell 2; have m3 : wz.cell? ⟨nb, 3, none⟩ = some (.int .u32 (xa : Int)) := hSw.cell 3; go_simp; try (with_reducible rfl)
            try simp only [Act.put, List.setIfInBounds_toArray, List.set_cons_zero, List.set_cons_succ, List.getElem_toArray, List.getElem_cons_succ, List.getElem_cons_zero]
            refine take_at (some 106) (i := 7) (v := ?_) rfl rfl (by kernel_rfl) (by kernel_rfl) (by kernel_rfl) (fun _ _ _ h => h) (Or.inl ⟨by kernel_rfl, ?_⟩) hHeld ?_
            rotate_left
            · intro wz hSw; have m1 : wz.cell? ⟨nb, 1, none⟩ = some (.string xt) := hSw.cell 1; have m2 : wz.cell? ⟨nb, 2, none⟩ = some (.int .i64 xk) := hSw.cell 2; have m3 : wz.cell? ⟨nb, 3, none⟩ = some (.int .u32 (xa : Int)) := hSw.cell 3; go_simp; try (with_reducible rfl)
            try simp only [Act.put, List.setIfInBounds_toArray, List.set_cons_zero, List.set_cons_succ, List.getElem_toArray, List.getElem_cons_succ, List.getElem_cons_zero]
            refine take_at (some 107) (i := 8) (v := ?_) rfl rfl (by kernel_rfl) (by kernel_rfl) (by kernel_rfl) (fun _ _ _ h => h) (Or.inl ⟨by kernel_rfl, ?_⟩) hHeld ?_
            rotate_left
            · intro wz hSw; have m1 : wz.cell? ⟨nb, 1, none⟩ = some (.string xt) := hSw.cell 1; have m2 : wz.cell? ⟨nb, 2, none⟩ = some (.int .i64 xk) := hSw.cell 2; have m3 : wz.cell? ⟨nb, 3, none⟩ = some (.int .u32 (xa : Int)) := hSw.cell 3; go_simp; try (with_reducible rfl)
            try simp only [Act.put, List.setIfInBounds_toArray, List.set_cons_zero, List.set_cons_succ, List.getElem_toArray, List.getElem_cons_succ, List.getElem_cons_zero]
            refine take_at (some 108) (i := 9) (v := ?_) rfl rfl (by kernel_rfl) (by kernel_rfl) (by kernel_rfl) (fun _ _ _ h => h) (Or.inl ⟨by kernel_rfl, ?_⟩) hHeld ?_
            rotate_left
            · intro wz hSw; have m1 : wz.cell? ⟨nb, 1, none⟩ = some (.string xt) := hSw.cell 1; have m2 : wz.cell? ⟨nb, 2, none⟩ = some (.int .i64 xk) := hSw.cell 2; have m3 : wz.cell? ⟨nb, 3, none⟩ = some (.int .u32 (xa : Int)) := hSw.cell 3; go_simp; try (with_reducible rfl)
            try simp only [Act.put, List.setIfInBounds_toArray, List.set_cons_zero, List.set_cons_succ, List.getElem_toArray, List.getElem_cons_succ, List.getElem_cons_zero]
            refine take_at (some 109) (i := 10) (v := ?_) rfl rfl (by kernel_rfl) (by kernel_rfl) (by kernel_rfl) (fun _ _ _ h => h) (Or.inl ⟨by kernel_rfl, ?_⟩) hHeld ?_
            rotate_left
            · intro wz hSw; have m1 : wz.cell? ⟨nb, 1, none⟩ = some (.string xt) := hSw.cell 1; have m2 : wz.cell? ⟨nb, 2, none⟩ = some (.int .i64 xk) := hSw.cell 2; have m3 : wz.cell? ⟨nb, 3, none⟩ = some (.int .u32 (xa : Int)) := hSw.cell 3; go_simp; try (with_reducible rfl)
            try simp only [Act.put, List.setIfInBounds_toArray, List.set_cons_zero, List.set_cons_succ, List.getElem_toArray, List.getElem_cons_succ, List.getElem_cons_zero]
            have HXD := Lib.hid (HX.out.on (Below.refl _ _).drew)
            refine wpAnyH_ready (rs := [5]) (by kernel_rfl) (by simp) (AllReadyH.cons rfl (fun K hK => ?_) AllReadyH.nil)
            rw [if_pos (by kernel_rfl)]
            go_simp
            refine (lg_used HXD.out xt xk HSM.out.1).mono ?_
            rintro e y1 ⟨rfl, hy1⟩
            try rw [HN1.out]
            try dsimp only
            refine hK.out _ _ (HOPB.out _ _ _ hy1) (fun hHeld => ?_)
            try simp only [Act.put, List.setIfInBounds_toArray, List.set_cons_zero, List.set_cons_succ, List.getElem_toArray, List.getElem_cons_succ, List.getElem_cons_zero]
            refine wpAnyH_ready (rs := [11]) (by kernel_rfl) (by simp) (AllReadyH.cons rfl (fun K hK => ?_) AllReadyH.nil)
            rw [if_pos (by kernel_rfl)]
            go_simp
            refine (pl_used HPH.out hy1 HLM2.out xt xk).mono ?_
            rintro e y2 ⟨rfl, hy2⟩
            try rw [HN1.out]
            try dsimp only
            refine hK.out _ _ (HOPB.out _ _ _ hy2) (fun hHeld => ?_)
            try simp only [Act.put, List.setIfInBounds_toArray, List.set_cons_zero, List.set_cons_succ, List.getElem_toArray, List.getElem_cons_succ, List.getElem_cons_zero]
            refine take_at (some 111) (i := 12) (v := ?_) rfl rfl (by kernel_rfl) (by kernel_rfl) (by kernel_rfl) (fun _ _ _ h => h) (Or.inl ⟨by kernel_rfl, ?_⟩) hHeld ?_
            rotate_left
            · intro wz hSw; have m1 : wz.cell? ⟨nb, 1, none⟩ = some (.string xt) := hSw.cell 1; have m2 : wz.cell? ⟨nb, 2, none⟩ = some (.int .i64 xk) := hSw.cell 2; have m3 : wz.cell? ⟨nb, 3, none⟩ = some (.int .u32 (xa : Int)) := hSw.cell 3; go_simp; try (with_reducible rfl)
            try simp only [Act.put, List.setIfInBounds_toArray, List.set_cons_zero, List.set_cons_succ, List.getElem_toArray, List.getElem_cons_succ, List.getElem_cons_zero]
            refine wpAnyH_done (by kernel_rfl) ?_ _
            refine gen_qP (fun y => Lg w tn [⟨g, mb, lo, hi, gs, U2⟩] (rlb rb bn bv Q U2 ++ ((nb, 35, #[.int .i64 xw, .string xt, .int .i64 xk, .int .u32 (xa : Int)]) :: [(g0, 24, #[.int .i64 a0, .int .i64 a1, .int .i64 a2, .int .i64 a3, .slice A n c])])) y) hy2 (fun yy hyy => ?_)
            clear hHeld hy1 hy2 HXD HX
            have HX := Lib.hid hyy
            clear hyy
            go_wp2
            go_roundw
            case rel => exact ⟨i + 1, U2, by omega, by go_num, Lib.hid (HX.out.less (fun b hb => by simp only [List.mem_append, List.mem_cons] at hb ⊢; rcases hb with hb | hb; exact .inl hb; exact .inr (.inr hb)))⟩
            case measure => simp [intOf]; omega
          · have hz2 : (xw == 3) = false := by rw [beq_eq_false_iff_ne]; exact hz
            clear hw hz
            obtain ⟨E, hE⟩ : ∃ E, tkI (gtF tn xt) (U xt xk) xk = E := ⟨_, rfl⟩
            obtain ⟨U2, hU2⟩ : ∃ U2, tkU (gtF tn xt) U xt xk = U2 := ⟨_, rfl⟩
            have hEE : (E != E) = false := bne_self_eq_false E
            have HC1 := Lib.hid (show ∀ u, Lg w tn [⟨g, mb, lo, hi, gs, U⟩] (rlb rb bn bv Q U ++ ((nb, 35, #[.int .i64 xw, .string xt, .int .i64 xk, .int .u32 (xa : Int)]) :: [(g0, 24, #[.int .i64 a0, .int .i64 a1, .int .i64 a2, .int .i64 a3, .slice A n c])])) u → Calls Try.prog 18 #[.pointer (some ⟨g, 0, none⟩), .string xt, .int .i64 xk] u fun e u' => e = .returned (.int .i64 E) ∧ Lg w tn [⟨g, mb, lo, hi, gs, U2⟩] (rlb rb bn bv Q U ++ ((nb, 35, #[.int .i64 xw, .string xt, .int .i64 xk, .int .u32 (xa : Int)]) :: [(g0, 24, #[.int .i64 a0, .int .i64 a1, .int .i64 a2, .int .i64 a3, .slice A n c])])) u' from fun u hu => by have := lg_take hu xt xk HSM.out.1; rwa [hE, hU2] at this)
            have HC2 := Lib.hid (show ∀ u, Lg w tn [⟨g, mb, lo, hi, gs, U2⟩] (rlb rb bn bv Q U ++ ((nb, 35, #[.int .i64 xw, .string xt, .int .i64 xk, .int .u32 (xa : Int)]) :: [(g0, 24, #[.int .i64 a0, .int .i64 a1, .int .i64 a2, .int .i64 a3, .slice A n c])])) u → Calls Try.prog 19 #[.pointer (some ⟨rb, 0, none⟩), .string xt, .int .i64 xk] u fun e u' => e = .returned (.int .i64 E) ∧ Lg w tn [⟨g, mb, lo, hi, gs, U2⟩] (rlb rb bn bv Q U2 ++ ((nb, 35, #[.int .i64 xw, .string xt, .int .i64 xk, .int .u32 (xa : Int)]) :: [(g0, 24, #[.int .i64 a0, .int .i64 a1, .int .i64 a2, .int .i64 a3, .slice A n c])])) u' from fun u hu => by have := pl_take HPH.out hu HLL.out HLIM.out xt xk; rwa [hE, hU2] at this)
            clear hE hU2
            go_upto_region 25 with (first
              | (go_at_call 18; (with_reducible refine (HC1.out _ HVN.out).mono ?_); rintro e u6 ⟨rfl, hv⟩; have HV6 := Lib.hid hv; clear hv; clear d0 d1 d2 d3; have d1 : u6.cell? ⟨nb, 1, none⟩ = some (.string xt) := (HOPB.out _ _ _ HV6.out).cell 1; have d2 : u6.cell? ⟨nb, 2, none⟩ = some (.int .i64 xk) := (HOPB.out _ _ _ HV6.out).cell 2)
              | (go_at_call 19; (with_reducible refine (HC2.out _ HV6.out).mono ?_); rintro e u7 ⟨rfl, hv⟩; have HX := Lib.hid hv; clear hv d1 d2))
            obtain ⟨n1, h1⟩ : ∃ n1, U2 xt xk = n1 := ⟨_, rfl⟩
            have HN1 := Lib.hid h1
            clear h1
            have hn1 : ((n1 : Int) != (n1 : Int)) = false := bne_self_eq_false _
            have HLM2 := Lib.hid HX.out.lim
            try simp only [List.cons_append, List.nil_append]
            refine wp_region_held_drew (S := fun wz => Bk wz nb 35 #[.int .i64 xw, .string xt, .int .i64 xk, .int .u32 (xa : Int)]) (by kernel_rfl) ((HOPB.out _ _ _ HX.out).drew) (fun hHeld => ?_)
            refine take_at (some 99) (i := 0) (v := ?_) rfl rfl (by kernel_rfl) (by kernel_rfl) (by kernel_rfl) (fun _ _ _ h => h) (Or.inl ⟨by kernel_rfl, ?_⟩) hHeld ?_
            rotate_left
            · intro wz hSw; have m1 : wz.cell? ⟨nb, 1, none⟩ = some (.string xt) := hSw.cell 1; have m2 : wz.cell? ⟨nb, 2, none⟩ = some (.int .i64 xk) := hSw.cell 2; have m3 : wz.cell? ⟨nb, 3, none⟩ = some (.int .u32 (xa : Int)) := hSw.cell 3; go_simp; try (with_reducible rfl)
            try simp only [Act.put, List.setIfInBounds_toArray, List.set_cons_zero, List.set_cons_succ, List.getElem_toArray, List.getElem_cons_succ, List.getElem_cons_zero]
            refine take_at (some 100) (i := 1) (v := ?_) rfl rfl (by kernel_rfl) (by kernel_rfl) (by kernel_rfl) (fun _ _ _ h => h) (Or.inl ⟨by kernel_rfl, ?_⟩) hHeld ?_
            rotate_left
            · intro wz hSw; have m1 : wz.cell? ⟨nb, 1, none⟩ = some (.string xt) := hSw.cell 1; have m2 : wz.cell? ⟨nb, 2, none⟩ = some (.int .i64 xk) := hSw.cell 2; have m3 : wz.cell? ⟨nb, 3, none⟩ = some (.int .u32 (xa : Int)) := hSw.cell 3; go_simp; try (with_reducible rfl)
            try simp only [Act.put, List.setIfInBounds_toArray, List.set_cons_zero, List.set_cons_succ, List.getElem_toArray, List.getElem_cons_succ, List.getElem_cons_zero]
            refine take_at (some 101) (i := 2) (v := ?_) rfl rfl (by kernel_rfl) (by kernel_rfl) (by kernel_rfl) (fun _ _ _ h => h) (Or.inl ⟨by kernel_rfl, ?_⟩) hHeld ?_
            rotate_left
            · intro wz hSw; have m1 : wz.cell? ⟨nb, 1, none⟩ = some (.string xt) := hSw.cell 1; have m2 : wz.cell? ⟨nb, 2, none⟩ = some (.int .i64 xk) := hSw.cell 2; have m3 : wz.cell? ⟨nb, 3, none⟩ = some (.int .u32 (xa : Int)) := hSw.cell 3; go_simp; try (with_reducible rfl)
            try simp only [Act.put, List.setIfInBounds_toArray, List.set_cons_zero, List.set_cons_succ, List.getElem_toArray, List.getElem_cons_succ, List.getElem_cons_zero]
            refine take_at (some 102) (i := 3) (v := ?_) rfl rfl (by kernel_rfl) (by kernel_rfl) (by kernel_rfl) (fun _ _ _ h => h) (Or.inl ⟨by kernel_rfl, ?_⟩) hHeld ?_
            rotate_left
            · intro wz hSw; have m1 : wz.cell? ⟨nb, 1, none⟩ = some (.string xt) := hSw.cell 1; have m2 : wz.cell? ⟨nb, 2, none⟩ = some (.int .i64 xk) := hSw.cell 2; have m3 : wz.cell? ⟨nb, 3, none⟩ = some (.int .u32 (xa : Int)) := hSw.cell 3; go_simp; try (with_reducible rfl)
            try simp only [Act.put, List.setIfInBounds_toArray, List.set_cons_zero, List.set_cons_succ, List.getElem_toArray, List.getElem_cons_succ, List.getElem_cons_zero]
            refine take_at (some 103) (i := 4) (v := ?_) rfl rfl (by kernel_rfl) (by kernel_rfl) (by kernel_rfl) (fun _ _ _ h => h) (Or.inl ⟨by kernel_rfl, ?_⟩) hHeld ?_
            rotate_left
            · intro wz hSw; have m1 : wz.cell? ⟨nb, 1, none⟩ = some (.string xt) := hSw.cell 1; have m2 : wz.cell? ⟨nb, 2, none⟩ = some (.int .i64 xk) := hSw.cell 2; have m3 : wz.cell? ⟨nb, 3, none⟩ = some (.int .u32 (xa : Int)) := hSw.cell 3; go_simp; try (with_reducible rfl)
            try simp only [Act.put, List.setIfInBounds_toArray, List.set_cons_zero, List.set_cons_succ, List.getElem_toArray, List.getElem_cons_succ, List.getElem_cons_zero]
            refine take_at (some 105) (i := 6) (v := ?_) rfl rfl (by kernel_rfl) (by kernel_rfl) (by kernel_rfl) (fun _ _ _ h => h) (Or.inl ⟨by kernel_rfl, ?_⟩) hHeld ?_
            rotate_left
            · intro wz hSw; have m1 : wz.cell? ⟨nb, 1, none⟩ = some (.string xt) := hSw.cell 1; have m2 : wz.cell? ⟨nb, 2, none⟩ = some (.int .i64 xk) := hSw.cell 2; have m3 : wz.cell? ⟨nb, 3, none⟩ = some (.int .u32 (xa : Int)) := hSw.cell 3; go_simp; try (with_reducible rfl)
            try simp only [Act.put, List.setIfInBounds_toArray, List.set_cons_zero, List.set_cons_succ, List.getElem_toArray, List.getElem_cons_succ, List.getElem_cons_zero]
            refine take_at (some 106) (i := 7) (v := ?_) rfl rfl (by kernel_rfl) (by kernel_rfl) (by kernel_rfl) (fun _ _ _ h => h) (Or.inl ⟨by kernel_rfl, ?_⟩) hHeld ?_
            rotate_left
            · intro wz hSw; have m1 : wz.cell? ⟨nb, 1, none⟩ = some (.string xt) := hSw.cell 1; have m2 : wz.cell? ⟨nb, 2, none⟩ = some (.int .i64 xk) := hSw.cell 2; have m3 : wz.cell? ⟨nb, 3, none⟩ = some (.int .u32 (xa : Int)) := hSw.cell 3; go_simp; try (with_reducible rfl)
            try simp only [Act.put, List.setIfInBounds_toArray, List.set_cons_zero, List.set_cons_succ, List.getElem_toArray, List.getElem_cons_succ, List.getElem_cons_zero]
            refine take_at (some 107) (i := 8) (v := ?_) rfl rfl (by kernel_rfl) (by kernel_rfl) (by kernel_rfl) (fun _ _ _ h => h) (Or.inl ⟨by kernel_rfl, ?_⟩) hHeld ?_
            rotate_left
            · intro wz hSw; have m1 : wz.cell? ⟨nb, 1, none⟩ = some (.string xt) := hSw.cell 1; have m2 : wz.cell? ⟨nb, 2, none⟩ = some (.int .i64 xk) := hSw.cell 2; have m3 : wz.cell? ⟨nb, 3, none⟩ = some (.int .u32 (xa : Int)) := hSw.cell 3; go_simp; try (with_reducible rfl)
            try simp only [Act.put, List.setIfInBounds_toArray, List.set_cons_zero, List.set_cons_succ, List.getElem_toArray, List.getElem_cons_succ, List.getElem_cons_zero]
            refine take_at (some 108) (i := 9) (v := ?_) rfl rfl (by kernel_rfl) (by kernel_rfl) (by kernel_rfl) (fun _ _ _ h => h) (Or.inl ⟨by kernel_rfl, ?_⟩) hHeld ?_
            rotate_left
            · intro wz hSw; have m1 : wz.cell? ⟨nb, 1, none⟩ = some (.string xt) := hSw.cell 1; have m2 : wz.cell? ⟨nb, 2, none⟩ = some (.int .i64 xk) := hSw.cell 2; have m3 : wz.cell? ⟨nb, 3, none⟩ = some (.int .u32 (xa : Int)) := hSw.cell 3; go_simp; try (with_reducible rfl)
            try simp only [Act.put, List.setIfInBounds_toArray, List.set_cons_zero, List.set_cons_succ, List.getElem_toArray, List.getElem_cons_succ, List.getElem_cons_zero]
            refine take_at (some 109) (i := 10) (v := ?_) rfl rfl (by kernel_rfl) (by kernel_rfl) (by kernel_rfl) (fun _ _ _ h => h) (Or.inl ⟨by kernel_rfl, ?_⟩) hHeld ?_
            rotate_left
            · intro wz hSw; have m1 : wz.cell? ⟨nb, 1, none⟩ = some (.string xt) := hSw.cell 1; have m2 : wz.cell? ⟨nb, 2, none⟩ = some (.int .i64 xk) := hSw.cell 2; have m3 : wz.cell? ⟨nb, 3, none⟩ = some (.int .u32 (xa : Int)) := hSw.cell 3; go_simp; try (with_reducible rfl)
            try simp only [Act.put, List.setIfInBounds_toArray, List.set_cons_zero, List.set_cons_succ, List.getElem_toArray, List.getElem_cons_succ, List.getElem_cons_zero]
            have HXD := Lib.hid (HX.out.on (Below.refl _ _).drew)
            refine wpAnyH_ready (rs := [5]) (by kernel_rfl) (by simp) (AllReadyH.cons rfl (fun K hK => ?_) AllReadyH.nil)
            rw [if_pos (by kernel_rfl)]
            go_simp
            refine (lg_used HXD.out xt xk HSM.out.1).mono ?_
            rintro e y1 ⟨rfl, hy1⟩
            try rw [HN1.out]
            try dsimp only
            refine hK.out _ _ (HOPB.out _ _ _ hy1) (fun hHeld => ?_)
            try simp only [Act.put, List.setIfInBounds_toArray, List.set_cons_zero, List.set_cons_succ, List.getElem_toArray, List.getElem_cons_succ, List.getElem_cons_zero]
            refine wpAnyH_ready (rs := [11]) (by kernel_rfl) (by simp) (AllReadyH.cons rfl (fun K hK => ?_) AllReadyH.nil)
            rw [if_pos (by kernel_rfl)]
            go_simp
            refine (pl_used HPH.out hy1 HLM2.out xt xk).mono ?_
            rintro e y2 ⟨rfl, hy2⟩
            try rw [HN1.out]
            try dsimp only
            refine hK.out _ _ (HOPB.out _ _ _ hy2) (fun hHeld => ?_)
            try simp only [Act.put, List.setIfInBounds_toArray, List.set_cons_zero, List.set_cons_succ, List.getElem_toArray, List.getElem_cons_succ, List.getElem_cons_zero]
            refine take_at (some 111) (i := 12) (v := ?_) rfl rfl (by kernel_rfl) (by kernel_rfl) (by kernel_rfl) (fun _ _ _ h => h) (Or.inl ⟨by kernel_rfl, ?_⟩) hHeld ?_
            rotate_left
            · intro wz hSw; have m1 : wz.cell? ⟨nb, 1, none⟩ = some (.string xt) := hSw.cell 1; have m2 : wz.cell? ⟨nb, 2, none⟩ = some (.int .i64 xk) := hSw.cell 2; have m3 : wz.cell? ⟨nb, 3, none⟩ = some (.int .u32 (xa : Int)) := hSw.cell 3; go_simp; try (with_reducible rfl)
            try simp only [Act.put, List.setIfInBounds_toArray, List.set_cons_zero, List.set_cons_succ, List.getElem_toArray, List.getElem_cons_succ, List.getElem_cons_zero]
            refine wpAnyH_done (by kernel_rfl) ?_ _
            refine gen_qP (fun y => Lg w tn [⟨g, mb, lo, hi, gs, U2⟩] (rlb rb bn bv Q U2 ++ ((nb, 35, #[.int .i64 xw, .string xt, .int .i64 xk, .int .u32 (xa : Int)]) :: [(g0, 24, #[.int .i64 a0, .int .i64 a1, .int .i64 a2, .int .i64 a3, .slice A n c])])) y) hy2 (fun yy hyy => ?_)
            clear hHeld hy1 hy2 HXD HX
            have HX := Lib.hid hyy
            clear hyy
            go_wp2
            go_roundw
            case rel => exact ⟨i + 1, U2, by omega, by go_num, Lib.hid (HX.out.less (fun b hb => by simp only [List.mem_append, List.mem_cons] at hb ⊢; rcases hb with hb | hb; exact .inl hb; exact .inr (.inr hb)))⟩
            case measure => simp [intOf]; omega
      · have hi2 : ¬ (i : Int) < (nl : Int) := by omega
        go_wp2
        go_ret
        exact ⟨by first | rfl | simp, HV.out.l⟩
end Go.Proofs.Ytcplebbaiambgaa
