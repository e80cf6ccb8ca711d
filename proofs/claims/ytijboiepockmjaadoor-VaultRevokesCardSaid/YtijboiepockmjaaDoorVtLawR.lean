/- VaultRevokes: the walk. (Written by gen_vtr.py.) -/
import Derived.Test.YtijboiepockmjaaDoorVtS
import Derived.BigQuiet
import Derived.Deep.QuietTactic
namespace Go.Proofs.YtijboiepockmjaaDoor
set_option linter.unusedVariables false
set_option maxRecDepth 100000
set_option linter.unusedSimpArgs false
open Go.RowKit

theorem gen_qR {Q : Exit → Act → World → Prop} {e : Exit} {a : Act} {w : World} (S : World → Prop) (hS : S w) (h : ∀ u, S u → Q e a u) : Q e a w := h w hS
theorem two_row (w : World) (a b : ByteArray) (t : TypeId) : Rw 1 scs (w.alloc (.cells #[.string a, .string b] t)) (some ⟨w.heap.size, 0, none⟩) [a, b] := by
  have hk := Bk.new w t #[.string a, .string b]
  refine .inr ⟨w.heap.size, 0, rfl, hk.lt, fun i hi j hj => ?_⟩
  rw [hk.cell]
  match i, hi, j, hj with
  | 0, _, 0, _ => rfl
  | 1, _, 0, _ => rfl
set_option maxRecDepth 100000 in
set_option maxHeartbeats 16000000 in
theorem walk_VaultRevokes (x : Cv) (B : Option Addr) (lo : List Vo) (d : Nat) (w : World) (h : InCf w x) (ho : InOps w B lo d) (hG : Gl w) :
    Calls Tryd.prog 8 #[.agg (ccs x), .slice B lo.length d] w fun e w' => e = .returned (.bool true) ∧ Below w.heap.size w w' := by
  have HGR := Lib.hid (fun u (hu : Below w.heap.size w u) => great_ok x u (h.on hu))
  have HN0 := Lib.hid (fun (hc : cfgB x.cg = false) => vnew_no h.rc hc)
  have HN1 := Lib.hid (fun (hc : cfgB x.cg = true) => vnew_yes h.rc hc)
  have HRT := Lib.hid h.rc.r
  have HMX := Lib.hid h.rc.f.max
  have HCP := Lib.hid h.rc.f.cap
  have HSE := Lib.hid (fun (hc : cfgB x.cg = true) (a b : ByteArray) k (hk : tkN x.cg.tens a b = some k) => (tkN_till hc hk).2.2.2)
  have HTN := Lib.hid (show ∀ a b, tkT x.ts a b = tkN x.cg.tens a b from fun a b => tkT_is _ _ _)
  have HGO := Lib.hid (fun u (hu : Below w.heap.size w u) => vgreat_ok B lo d u (ho.on hu))
  have HOP := Lib.hid ho
  obtain ⟨C, hC⟩ : ∃ C, cfgB x.cg = C := ⟨_, rfl⟩
  simp only [hC] at HN0 HN1 HSE
  obtain ⟨tn, htn⟩ : ∃ tn, x.cg.tens = tn := ⟨_, rfl⟩
  rw [htn] at HN1 HSE HTN
  obtain ⟨a0, a1, a2, a3, ts, A, c⟩ := x
  obtain ⟨n, hn⟩ : ∃ n, ts.length = n := ⟨_, rfl⟩
  have HN := Lib.hid hn
  dsimp only at HRT HMX HCP HTN
  simp only [ccs, hn] at HGR HN0 HN1 ⊢
  have HX := Lib.hid (show Bx w w.heap.size 24 #[.int .i64 a0, .int .i64 a1, .int .i64 a2, .int .i64 a3, .slice A n c] (w.alloc (.cells #[.int .i64 a0, .int .i64 a1, .int .i64 a2, .int .i64 a3, .slice A n c] 24)) from Bx.new w _ _)
  have HG := Lib.hid hG
  clear h hn hC htn hG
  obtain ⟨nl, hnl⟩ : ∃ k, lo.length = k := ⟨_, rfl⟩
  have HNL := Lib.hid hnl
  have hnl47 : nl ≤ 140737488355328 := by rw [← hnl]; exact ho.n
  rw [hnl] at HGO ⊢
  clear hnl ho
  go_enter Tryd.func8, Tryd.ntmps8
  go_upto_region 2 with (go_at_call 9; refine (vhead_ok _ (HG.out.below HX.out.l HG.out.size)).mono ?_; rintro e u1 ⟨rfl, hb⟩; have HX1 := Lib.hid (HX.out.on hb); clear hb)
  obtain ⟨g0, hg0⟩ : ∃ g, w.heap.size = g := ⟨_, rfl⟩
  have HG0 := Lib.hid hg0
  rw [hg0] at HX1 ⊢
  clear hg0
  have e0 : u1.cell? ⟨g0, 0, none⟩ = some (.int .i64 a0) := HX1.out.b.cell 0
  have e1 : u1.cell? ⟨g0, 1, none⟩ = some (.int .i64 a1) := HX1.out.b.cell 1
  have e2 : u1.cell? ⟨g0, 2, none⟩ = some (.int .i64 a2) := HX1.out.b.cell 2
  have e3 : u1.cell? ⟨g0, 3, none⟩ = some (.int .i64 a3) := HX1.out.b.cell 3
  have e4 : u1.cell? ⟨g0, 4, none⟩ = some (.slice A n c) := HX1.out.b.cell 4
  cases C with
  | false =>
    go_wp2_with (go_at_call 12; (with_reducible refine (HN0.out (by first | rfl | trivial) _ HX1.out.l).mono ?_); rintro e u2 ⟨rfl, hb⟩; have HX2 := Lib.hid (HX1.out.on hb); clear hb)
    go_ret
    exact ⟨rfl, HX2.out.l⟩
  | true =>
    go_upto_region 3 with (go_at_call 12; (with_reducible refine (HN1.out (by first | rfl | trivial) _ HX1.out.l [(g0, 24, #[.int .i64 a0, .int .i64 a1, .int .i64 a2, .int .i64 a3, .slice A n c])] (fun b hb => by obtain rfl := List.mem_singleton.1 hb; exact HX1.out.b)).mono ?_); rintro e u2 ⟨v, mb, rfl, hv, _, _, _⟩; have HV2 := Lib.hid hv; clear hv)
    clear e0 e1 e2 e3 e4
    have e0 : u2.cell? ⟨g0, 0, none⟩ = some (.int .i64 a0) := HV2.out.head.cell 0
    have e1 : u2.cell? ⟨g0, 1, none⟩ = some (.int .i64 a1) := HV2.out.head.cell 1
    have e2 : u2.cell? ⟨g0, 2, none⟩ = some (.int .i64 a2) := HV2.out.head.cell 2
    have e3 : u2.cell? ⟨g0, 3, none⟩ = some (.int .i64 a3) := HV2.out.head.cell 3
    have e4 : u2.cell? ⟨g0, 4, none⟩ = some (.slice A n c) := HV2.out.head.cell 4
    go_upto_region 5 with (first
      | (go_at_call 10; (with_reducible refine (HGR.out _ HV2.out.l).mono ?_); rintro e u3 ⟨g, rfl, _, hb⟩; have HV3 := Lib.hid (HV2.out.on hb); clear hb; cases g)
      | (go_at_call 11; (with_reducible refine (HGO.out _ HV3.out.l).mono ?_); rintro e u4 ⟨g2, rfl, hob, hb⟩; have HV4 := Lib.hid (HV3.out.on hb); have HOB := Lib.hid hob; clear hb hob; cases g2))
    any_goals (go_ret; first | exact ⟨rfl, HV3.out.l⟩ | exact ⟨rfl, HV4.out.l⟩)
    have HOB2 := Lib.hid (show OpsB lo from HOB.out (by first | rfl | trivial))
    clear HOB e0 e1 e2 e3 e4
    obtain ⟨wb, hwb⟩ : ∃ wb, u4 = wb := ⟨_, rfl⟩
    rw [hwb] at HV4 ⊢
    clear hwb
    have HLT := Lib.hid HV4.out.va.mp.lt
    have HMV := Lib.hid HV4.out.va.mp
    have HSE2 := Lib.hid (HSE.out (by first | rfl | trivial))
    clear HN0 HN1 HSE
    go_wp2_with fail
    go_loopw [7, 8] (fun v7 v8 wr => ∃ (i : Nat) (g P : Rev) (A7 : Option Addr) (n7 c7 : Nat), i ≤ nl ∧ v7 = .slice A7 n7 c7 ∧ v8 = .int .i64 (i : Int) ∧ Hid (n7 = 2 * i ∧ P.length = i ∧ g.length ≤ i) ∧ Hid (OS wr wb.heap.size A7 c7 P) ∧ Hid (Rn tn g P) ∧ Hid (Ke [mb] wb wr ∧ Mv wr mb g)) (fun _ v8 _ => nl - (intOf v8).toNat)
    case atStart => exact ⟨0, [], [], none, 0, 0, by omega, rfl, rfl, Lib.hid ⟨rfl, rfl, Nat.le_refl _⟩, Lib.hid (Ow.nil _ _), Lib.hid (Rn.nil _), Lib.hid ⟨Ke.refl _ _, HMV.out⟩⟩
    case round =>
      obtain ⟨i, g, P, A7, n7, c7, hi, rfl, rfl, HLN, HOS, HRN, HK⟩ := hrel
      have HV := Lib.hid (HV4.out.at_ HK.out.1 HK.out.2)
      by_cases hi1 : i < nl
      · have hi2 : (i : Int) < (nl : Int) := by omega
        obtain ⟨b, o, x, rfl, hx, hsm, hc⟩ := HOP.out.at6 i (by rw [HNL.out]; exact hi1)
        obtain ⟨c0, c1, c2, c3, c4, c5⟩ := hc wr HV.out.l
        obtain ⟨xw, xt, xk, xn, xp, xo⟩ := x
        dsimp only at c0 c1 c2 c3 c4 c5
        have HI100 := Lib.hid (show i < 100 by have h2 := HOB2.out.n; rw [HNL.out] at h2; omega)
        clear hc hx hsm
        obtain ⟨⟨⟨yn, ya, yb, ynl, ykl⟩, yAn, ycn, yAk, yck⟩, hy⟩ : ∃ y, (fT xt ts).getD zeroTv = y := ⟨_, rfl⟩
        obtain ⟨is1, his1⟩ : ∃ is1, (fT xt ts).isSome = is1 := ⟨_, rfl⟩
        have HRY := Lib.hid (show RT1 w ⟨⟨yn, ya, yb, ynl, ykl⟩, yAn, ycn, yAk, yck⟩ by
          rw [← hy]
          cases hq : fT xt ts with
          | none => exact RT1.zero w
          | some y => exact HRT.out.each y (fT_mem hq).1)
        have HKF := Lib.hid (show fK xk ((fT xt ts).getD zeroTv).t.toks = tkN tn xt xk from HTN.out xt xk)
        rw [hy] at HKF
        dsimp only at HKF
        have HFI := Lib.hid (fun u (hu : Below w.heap.size w u) => rfind_ok (.int .i64 a0) (.int .i64 a1) (.int .i64 a2) (.int .i64 a3) A ts n c xt u (HRT.out.on hu) HN.out (by have h1 := HMX.out; have h2 := HCP.out; rw [HN.out] at h2; omega))
        rw [hy, his1] at HFI
        obtain ⟨K, hK⟩ : ∃ K, tkN tn xt xk = K := ⟨_, rfl⟩
        rw [hK] at HKF
        have HTO := Lib.hid (fun u (hu : Below w.heap.size w u) => rtoken_ok (.string yn) (.int .i64 ya) (.int .i64 yb) (.slice yAn ynl.length ycn) yAk ykl ykl.length yck xk u (HRY.out.k.on hu) rfl (by have h1 := HRY.out.fk.max; have h2 := HRY.out.fk.cap; dsimp only at h1 h2; omega))
        rw [HKF.out] at HTO
        have HRM := Lib.hid (HRN.out.more xt xk)
        have HRL := Lib.hid (show (rvG (tkN tn xt xk) g xt xk).length ≤ i + 1 by have h1 := HLN.out; have h2 := @rv_lenS (tkN tn xt xk) g xt xk; omega)
        have HRV := Lib.hid (show ∀ (L : List (Nat × TypeId × Array Value)) u, Lv w v mb tn g L u → Calls Tryd.prog 14 #[.pointer (some ⟨v, 0, none⟩), .string xt, .string xk] u fun e u' => (e = .returned (.bool (K.isSome && !inR P xt xk)) ∧ Lv w v mb tn (rvG (tkN tn xt xk) g xt xk) L u') ∧ Ke [mb] u u' from fun L u hu => (lv_rev hu (by have := HLN.out; have := HI100.out; omega) xt xk).mono fun e u' hh => ⟨⟨by rw [hh.1.1, HRN.out.is, hK, rvB_is], hh.1.2⟩, hh.2⟩)
        obtain ⟨gg, hgg⟩ : ∃ gg, rvG (tkN tn xt xk) g xt xk = gg := ⟨_, rfl⟩
        rw [hgg] at HRM HRL
        simp only [hgg] at HRV
        obtain ⟨is, his⟩ : ∃ is, K.isSome = is := ⟨_, rfl⟩
        rw [his] at HTO
        simp only [his] at HRV
        obtain ⟨⟨kn, ks, ku⟩, hkd⟩ : ∃ k, K.getD zeroTk = k := ⟨_, rfl⟩
        rw [hkd] at HTO
        simp only [tcs] at HFI
        simp only [kcs] at HTO
        clear hy his1 hK his hkd HKF hgg
        obtain ⟨wo, hwo⟩ : ∃ wo, wr = wo := ⟨_, rfl⟩
        subst wr
        go_upto_region 10 with fail
        clear c0 c1 c2 c3 c4 c5
        have HVN := Lib.hid (HV.out.new 34 #[.int .i64 xw, .string xt, .string xk, .string xn, .string xp, .int .i64 xo])
        have HBN := Lib.hid (show Below wo.heap.size wo (wo.alloc (.cells #[.int .i64 xw, .string xt, .string xk, .string xn, .string xp, .int .i64 xo] 34)) from (Below.refl _ _).alloc (Nat.le_refl _) _)
        obtain ⟨wn, hwn⟩ : ∃ wn, wo.alloc (.cells #[.int .i64 xw, .string xt, .string xk, .string xn, .string xp, .int .i64 xo] 34) = wn := ⟨_, rfl⟩
        obtain ⟨gb, hgb⟩ : ∃ gb, wo.heap.size = gb := ⟨_, rfl⟩
        have HGB := Lib.hid hgb
        rw [hgb] at HVN
        rw [hwn] at HVN HBN
        rw [hwn] ; try rw [hgb]
        clear hwn hgb
        have e0 : wn.cell? ⟨g0, 0, none⟩ = some (.int .i64 a0) := (HVN.out.bk (List.mem_cons_of_mem _ (List.mem_cons_self ..))).cell 0
        have e1 : wn.cell? ⟨g0, 1, none⟩ = some (.int .i64 a1) := (HVN.out.bk (List.mem_cons_of_mem _ (List.mem_cons_self ..))).cell 1
        have e2 : wn.cell? ⟨g0, 2, none⟩ = some (.int .i64 a2) := (HVN.out.bk (List.mem_cons_of_mem _ (List.mem_cons_self ..))).cell 2
        have e3 : wn.cell? ⟨g0, 3, none⟩ = some (.int .i64 a3) := (HVN.out.bk (List.mem_cons_of_mem _ (List.mem_cons_self ..))).cell 3
        have e4 : wn.cell? ⟨g0, 4, none⟩ = some (.slice A n c) := (HVN.out.bk (List.mem_cons_of_mem _ (List.mem_cons_self ..))).cell 4
        have d1 : wn.cell? ⟨gb, 1, none⟩ = some (.string xt) := HVN.out.head.cell 1
        go_upto_region 12 with (first
          | (go_at_call 22; (with_reducible refine (HFI.out _ HVN.out.l).mono ?_); rintro e u5 ⟨rfl, hb⟩; have HV5 := Lib.hid ((HVN.out.on hb).new 44 #[.string yn, .int .i64 ya, .int .i64 yb, .slice yAn ynl.length ycn, .slice yAk ykl.length yck]); have HB5 := Lib.hid ((HBN.out.trans (hb.mono HBN.out.size)).alloc (Nat.le_trans HBN.out.size hb.size) (.cells #[.string yn, .int .i64 ya, .int .i64 yb, .slice yAn ynl.length ycn, .slice yAk ykl.length yck] 44)); clear hb e0 e1 e2 e3 e4 d1; have d2 : (u5.alloc (.cells #[.string yn, .int .i64 ya, .int .i64 yb, .slice yAn ynl.length ycn, .slice yAk ykl.length yck] 44)).cell? ⟨gb, 2, none⟩ = some (.string xk) := (HV5.out.bk (List.mem_cons_of_mem _ (List.mem_cons_self ..))).cell 2)
          | (go_at_call 23; (with_reducible refine (HTO.out _ HV5.out.l).mono ?_); rintro e u6 ⟨rfl, hb⟩; have HV6 := Lib.hid ((HV5.out.on hb).new 48 #[.string kn, .string ks, .int .i64 ku]); have HB6 := Lib.hid ((HB5.out.trans (hb.mono HB5.out.size)).alloc (Nat.le_trans HB5.out.size hb.size) (.cells #[.string kn, .string ks, .int .i64 ku] 48)); clear hb d2))
        obtain ⟨v6, hv6⟩ : ∃ v6, u6.alloc (.cells #[.string kn, .string ks, .int .i64 ku] 48) = v6 := ⟨_, rfl⟩
        rw [hv6] at HV6 HB6
        rw [hv6]
        clear hv6 HV5 HB5
        have HV7 := Lib.hid (HV6.out.less (L' := [(gb, 34, #[.int .i64 xw, .string xt, .string xk, .string xn, .string xp, .int .i64 xo]), (g0, 24, #[.int .i64 a0, .int .i64 a1, .int .i64 a2, .int .i64 a3, .slice A n c])]) (fun b hb => List.mem_cons_of_mem _ (List.mem_cons_of_mem _ hb)))
        have HOS6 := Lib.hid (HOS.out.on HB6.out)
        have HK6 := Lib.hid (show Ke [mb] wb v6 from HK.out.1.trans (Ke.of HB6.out).nil)
        clear HV6 HVN HBN HV HK HOS
        go_wp2_with fail
        go_loopw [14, 15] (fun v14 v15 wr => ∃ (j kk : Nat) (f : Bool), j ≤ i ∧ kk = 2 * j ∧ v14 = .bool f ∧ v15 = .int .i64 (kk : Int) ∧ Hid (f = !inR (P.take j) xt xk) ∧ Hid (Below v6.heap.size v6 wr)) (fun _ v15 _ => 2 * i + 2 - (intOf v15).toNat)
        case atStart => exact ⟨0, 0, true, by omega, rfl, rfl, rfl, Lib.hid (by simp [inR]), Lib.hid (Below.refl _ _)⟩
        case round =>
          obtain ⟨j, kk, f, hj, hkk, rfl, rfl, HF, HB7⟩ := hrel
          by_cases hj1 : j < i
          · have hk1 : (kk : Int) + 1 < (n7 : Int) := by have := HLN.out.1; omega
            have hk2 : kk + 1 < n7 := by have := HLN.out.1; omega
            have hk3 : (kk : Int) < (n7 : Int) := by omega
            have hk5 : (0 : Int) ≤ (kk : Int) + 1 := by omega
            have hwr : IntKind.i64.wrap ((kk : Int) + 1) = (kk : Int) + 1 := by have := HLN.out.1; have := HI100.out; rw [IntKind.wrap_i64]; omega
            have htn : ((kk : Int) + 1).toNat = kk + 1 := by omega
            have hk4 : kk < n7 := by omega
            obtain ⟨b7, o7, pa, pb, rfl, hp, hcl⟩ := HOS6.out.at2 j (by rw [HLN.out.2.1]; exact hj1)
            rw [← hkk] at hcl
            obtain ⟨z1, z2⟩ := hcl wr HB7.out
            have hv7 := HV7.out.on HB7.out
            have d1 : wr.cell? ⟨gb, 1, none⟩ = some (.string xt) := hv7.head.cell 1
            have d2 : wr.cell? ⟨gb, 2, none⟩ = some (.string xk) := hv7.head.cell 2
            have HST := Lib.hid (inR_take P j pa pb xt xk hp)
            have h7 : kk < 200 := by have := HI100.out; omega
            have HCL := Lib.hid hcl
            have HKK := Lib.hid hkk
            clear hv7 hp hcl hkk
            obtain ⟨wp, hwp⟩ : ∃ wp, wr = wp := ⟨_, rfl⟩
            subst wr
            cases f with
            | false =>
              go_upto_region 16 with fail
              clear d1 d2 z1 z2
              try simp only [List.cons_append, List.nil_append]
              refine wp_region_held_drew (S := fun wz => Below wp.heap.size wp wz) (by kernel_rfl) ((Below.refl _ _).drew) (fun hHeld => ?_)
              refine take_at (some 61) (i := 0) (v := ?_) rfl rfl (by kernel_rfl) (by kernel_rfl) (by kernel_rfl) (fun _ _ _ h => h) (Or.inl ⟨by kernel_rfl, ?_⟩) hHeld ?_
              rotate_left
              · intro wz hSw; go_simp; try (with_reducible rfl)
              try simp only [Act.put, List.setIfInBounds_toArray, List.set_cons_zero, List.set_cons_succ, List.getElem_toArray, List.getElem_cons_succ, List.getElem_cons_zero]
              refine take_at (some 62) (i := 1) (v := ?_) rfl rfl (by kernel_rfl) (by kernel_rfl) (by kernel_rfl) (fun _ _ _ h => h) (Or.inl ⟨by kernel_rfl, ?_⟩) hHeld ?_
              rotate_left
              · intro wz hSw; go_simp; try (with_reducible rfl)
              try simp only [Act.put, List.setIfInBounds_toArray, List.set_cons_zero, List.set_cons_succ, List.getElem_toArray, List.getElem_cons_succ, List.getElem_cons_zero]
              refine take_at (some 63) (i := 2) (v := undef) rfl rfl (by kernel_rfl) (by kernel_rfl) (by kernel_rfl) (fun _ _ _ h => h) (Or.inr ⟨by kernel_rfl, rfl⟩) hHeld ?_
              try simp only [Act.put, List.setIfInBounds_toArray, List.set_cons_zero, List.set_cons_succ, List.getElem_toArray, List.getElem_cons_succ, List.getElem_cons_zero]
              refine take_at (some 64) (i := 3) (v := undef) rfl rfl (by kernel_rfl) (by kernel_rfl) (by kernel_rfl) (fun _ _ _ h => h) (Or.inr ⟨by kernel_rfl, rfl⟩) hHeld ?_
              try simp only [Act.put, List.setIfInBounds_toArray, List.set_cons_zero, List.set_cons_succ, List.getElem_toArray, List.getElem_cons_succ, List.getElem_cons_zero]
              refine take_at (some 65) (i := 4) (v := undef) rfl rfl (by kernel_rfl) (by kernel_rfl) (by kernel_rfl) (fun _ _ _ h => h) (Or.inr ⟨by kernel_rfl, rfl⟩) hHeld ?_
              try simp only [Act.put, List.setIfInBounds_toArray, List.set_cons_zero, List.set_cons_succ, List.getElem_toArray, List.getElem_cons_succ, List.getElem_cons_zero]
              refine take_at (some 66) (i := 5) (v := undef) rfl rfl (by kernel_rfl) (by kernel_rfl) (by kernel_rfl) (fun _ _ _ h => h) (Or.inr ⟨by kernel_rfl, rfl⟩) hHeld ?_
              try simp only [Act.put, List.setIfInBounds_toArray, List.set_cons_zero, List.set_cons_succ, List.getElem_toArray, List.getElem_cons_succ, List.getElem_cons_zero]
              refine take_at (some 67) (i := 6) (v := undef) rfl rfl (by kernel_rfl) (by kernel_rfl) (by kernel_rfl) (fun _ _ _ h => h) (Or.inr ⟨by kernel_rfl, rfl⟩) hHeld ?_
              try simp only [Act.put, List.setIfInBounds_toArray, List.set_cons_zero, List.set_cons_succ, List.getElem_toArray, List.getElem_cons_succ, List.getElem_cons_zero]
              refine take_at (some 68) (i := 7) (v := undef) rfl rfl (by kernel_rfl) (by kernel_rfl) (by kernel_rfl) (fun _ _ _ h => h) (Or.inr ⟨by kernel_rfl, rfl⟩) hHeld ?_
              try simp only [Act.put, List.setIfInBounds_toArray, List.set_cons_zero, List.set_cons_succ, List.getElem_toArray, List.getElem_cons_succ, List.getElem_cons_zero]
              refine take_at (some 69) (i := 8) (v := undef) rfl rfl (by kernel_rfl) (by kernel_rfl) (by kernel_rfl) (fun _ _ _ h => h) (Or.inr ⟨by kernel_rfl, rfl⟩) hHeld ?_
              try simp only [Act.put, List.setIfInBounds_toArray, List.set_cons_zero, List.set_cons_succ, List.getElem_toArray, List.getElem_cons_succ, List.getElem_cons_zero]
              refine take_at (some 70) (i := 9) (v := undef) rfl rfl (by kernel_rfl) (by kernel_rfl) (by kernel_rfl) (fun _ _ _ h => h) (Or.inr ⟨by kernel_rfl, rfl⟩) hHeld ?_
              try simp only [Act.put, List.setIfInBounds_toArray, List.set_cons_zero, List.set_cons_succ, List.getElem_toArray, List.getElem_cons_succ, List.getElem_cons_zero]
              refine take_at (some 71) (i := 10) (v := undef) rfl rfl (by kernel_rfl) (by kernel_rfl) (by kernel_rfl) (fun _ _ _ h => h) (Or.inr ⟨by kernel_rfl, rfl⟩) hHeld ?_
              try simp only [Act.put, List.setIfInBounds_toArray, List.set_cons_zero, List.set_cons_succ, List.getElem_toArray, List.getElem_cons_succ, List.getElem_cons_zero]
              refine take_at (some 72) (i := 11) (v := undef) rfl rfl (by kernel_rfl) (by kernel_rfl) (by kernel_rfl) (fun _ _ _ h => h) (Or.inr ⟨by kernel_rfl, rfl⟩) hHeld ?_
              try simp only [Act.put, List.setIfInBounds_toArray, List.set_cons_zero, List.set_cons_succ, List.getElem_toArray, List.getElem_cons_succ, List.getElem_cons_zero]
              refine take_at (some 73) (i := 12) (v := undef) rfl rfl (by kernel_rfl) (by kernel_rfl) (by kernel_rfl) (fun _ _ _ h => h) (Or.inr ⟨by kernel_rfl, rfl⟩) hHeld ?_
              try simp only [Act.put, List.setIfInBounds_toArray, List.set_cons_zero, List.set_cons_succ, List.getElem_toArray, List.getElem_cons_succ, List.getElem_cons_zero]
              refine take_at (some 74) (i := 13) (v := undef) rfl rfl (by kernel_rfl) (by kernel_rfl) (by kernel_rfl) (fun _ _ _ h => h) (Or.inr ⟨by kernel_rfl, rfl⟩) hHeld ?_
              try simp only [Act.put, List.setIfInBounds_toArray, List.set_cons_zero, List.set_cons_succ, List.getElem_toArray, List.getElem_cons_succ, List.getElem_cons_zero]
              refine take_at (some 75) (i := 14) (v := undef) rfl rfl (by kernel_rfl) (by kernel_rfl) (by kernel_rfl) (fun _ _ _ h => h) (Or.inr ⟨by kernel_rfl, rfl⟩) hHeld ?_
              try simp only [Act.put, List.setIfInBounds_toArray, List.set_cons_zero, List.set_cons_succ, List.getElem_toArray, List.getElem_cons_succ, List.getElem_cons_zero]
              refine take_at (some 76) (i := 15) (v := undef) rfl rfl (by kernel_rfl) (by kernel_rfl) (by kernel_rfl) (fun _ _ _ h => h) (Or.inr ⟨by kernel_rfl, rfl⟩) hHeld ?_
              try simp only [Act.put, List.setIfInBounds_toArray, List.set_cons_zero, List.set_cons_succ, List.getElem_toArray, List.getElem_cons_succ, List.getElem_cons_zero]
              refine take_at (some 77) (i := 16) (v := undef) rfl rfl (by kernel_rfl) (by kernel_rfl) (by kernel_rfl) (fun _ _ _ h => h) (Or.inr ⟨by kernel_rfl, rfl⟩) hHeld ?_
              try simp only [Act.put, List.setIfInBounds_toArray, List.set_cons_zero, List.set_cons_succ, List.getElem_toArray, List.getElem_cons_succ, List.getElem_cons_zero]
              refine take_at (some 78) (i := 17) (v := undef) rfl rfl (by kernel_rfl) (by kernel_rfl) (by kernel_rfl) (fun _ _ _ h => h) (Or.inr ⟨by kernel_rfl, rfl⟩) hHeld ?_
              try simp only [Act.put, List.setIfInBounds_toArray, List.set_cons_zero, List.set_cons_succ, List.getElem_toArray, List.getElem_cons_succ, List.getElem_cons_zero]
              refine take_at (some 79) (i := 18) (v := undef) rfl rfl (by kernel_rfl) (by kernel_rfl) (by kernel_rfl) (fun _ _ _ h => h) (Or.inr ⟨by kernel_rfl, rfl⟩) hHeld ?_
              try simp only [Act.put, List.setIfInBounds_toArray, List.set_cons_zero, List.set_cons_succ, List.getElem_toArray, List.getElem_cons_succ, List.getElem_cons_zero]
              refine take_at (some 80) (i := 19) (v := ?_) rfl rfl (by kernel_rfl) (by kernel_rfl) (by kernel_rfl) (fun _ _ _ h => h) (Or.inl ⟨by kernel_rfl, ?_⟩) hHeld ?_
              rotate_left
              · intro wz hSw; go_simp; try (with_reducible rfl)
              try simp only [Act.put, List.setIfInBounds_toArray, List.set_cons_zero, List.set_cons_succ, List.getElem_toArray, List.getElem_cons_succ, List.getElem_cons_zero]
              refine wpAnyH_ready (rs := [20]) (by kernel_rfl) (by simp) (AllReadyH.cons rfl (fun K hK => ?_) AllReadyH.nil)
              rw [if_pos (by kernel_rfl)]
              go_simp
              refine hK.out _ _ hHeld (fun hHeld => ?_)
              try simp only [Act.put, List.setIfInBounds_toArray, List.set_cons_zero, List.set_cons_succ, List.getElem_toArray, List.getElem_cons_succ, List.getElem_cons_zero]
              refine wpAnyH_done (by kernel_rfl) ?_ _
              refine gen_qR (fun y => Below wp.heap.size wp y) hHeld (fun y hy => ?_)
              clear hHeld
              go_wp2
              go_roundw
              case rel => exact ⟨j + 1, kk + 2, false, by omega, by have := HKK.out; omega, rfl, by go_num, Lib.hid (by rw [HST.out]; rw [show inR (P.take j) xt xk = true by have := HF.out; cases hz : inR (P.take j) xt xk with | true => rfl | false => rw [hz] at this; cases this]; rfl), Lib.hid (HB7.out.trans (hy.mono HB7.out.size))⟩
              case measure => have := HKK.out; simp [intOf]; omega
            | true =>
              cases hq1 : (pa.toList == xt.toList) with
              | false =>
                go_upto_region 16 with fail
                clear d1 d2 z1 z2
                try simp only [List.cons_append, List.nil_append]
                refine wp_region_held_drew (S := fun wz => Below wp.heap.size wp wz) (by kernel_rfl) ((Below.refl _ _).drew) (fun hHeld => ?_)
                refine take_at (some 61) (i := 0) (v := ?_) rfl rfl (by kernel_rfl) (by kernel_rfl) (by kernel_rfl) (fun _ _ _ h => h) (Or.inl ⟨by kernel_rfl, ?_⟩) hHeld ?_
                rotate_left
                · intro wz hSw; have hv9 := (HV7.out.on HB7.out).on hSw; have k1 : wz.cell? ⟨gb, 1, none⟩ = some (.string xt) := hv9.head.cell 1; have k2 : wz.cell? ⟨gb, 2, none⟩ = some (.string xk) := hv9.head.cell 2; clear hv9; obtain ⟨z1, z2⟩ := HCL.out wz (HB7.out.trans (hSw.mono HB7.out.size)); go_simp; try (with_reducible rfl)
                try simp only [Act.put, List.setIfInBounds_toArray, List.set_cons_zero, List.set_cons_succ, List.getElem_toArray, List.getElem_cons_succ, List.getElem_cons_zero]
                refine take_at (some 62) (i := 1) (v := ?_) rfl rfl (by kernel_rfl) (by kernel_rfl) (by kernel_rfl) (fun _ _ _ h => h) (Or.inl ⟨by kernel_rfl, ?_⟩) hHeld ?_
                rotate_left
                · intro wz hSw; have hv9 := (HV7.out.on HB7.out).on hSw; have k1 : wz.cell? ⟨gb, 1, none⟩ = some (.string xt) := hv9.head.cell 1; have k2 : wz.cell? ⟨gb, 2, none⟩ = some (.string xk) := hv9.head.cell 2; clear hv9; obtain ⟨z1, z2⟩ := HCL.out wz (HB7.out.trans (hSw.mono HB7.out.size)); go_simp; try (with_reducible rfl)
                try simp only [Act.put, List.setIfInBounds_toArray, List.set_cons_zero, List.set_cons_succ, List.getElem_toArray, List.getElem_cons_succ, List.getElem_cons_zero]
                refine take_at (some 63) (i := 2) (v := ?_) rfl rfl (by kernel_rfl) (by kernel_rfl) (by kernel_rfl) (fun _ _ _ h => h) (Or.inl ⟨by kernel_rfl, ?_⟩) hHeld ?_
                rotate_left
                · intro wz hSw; have hv9 := (HV7.out.on HB7.out).on hSw; have k1 : wz.cell? ⟨gb, 1, none⟩ = some (.string xt) := hv9.head.cell 1; have k2 : wz.cell? ⟨gb, 2, none⟩ = some (.string xk) := hv9.head.cell 2; clear hv9; obtain ⟨z1, z2⟩ := HCL.out wz (HB7.out.trans (hSw.mono HB7.out.size)); go_simp; try (with_reducible rfl)
                try simp only [Act.put, List.setIfInBounds_toArray, List.set_cons_zero, List.set_cons_succ, List.getElem_toArray, List.getElem_cons_succ, List.getElem_cons_zero]
                refine take_at (some 64) (i := 3) (v := ?_) rfl rfl (by kernel_rfl) (by kernel_rfl) (by kernel_rfl) (fun _ _ _ h => h) (Or.inl ⟨by kernel_rfl, ?_⟩) hHeld ?_
                rotate_left
                · intro wz hSw; have hv9 := (HV7.out.on HB7.out).on hSw; have k1 : wz.cell? ⟨gb, 1, none⟩ = some (.string xt) := hv9.head.cell 1; have k2 : wz.cell? ⟨gb, 2, none⟩ = some (.string xk) := hv9.head.cell 2; clear hv9; obtain ⟨z1, z2⟩ := HCL.out wz (HB7.out.trans (hSw.mono HB7.out.size)); go_simp; try (with_reducible rfl)
                try simp only [Act.put, List.setIfInBounds_toArray, List.set_cons_zero, List.set_cons_succ, List.getElem_toArray, List.getElem_cons_succ, List.getElem_cons_zero]
                refine take_at (some 65) (i := 4) (v := ?_) rfl rfl (by kernel_rfl) (by kernel_rfl) (by kernel_rfl) (fun _ _ _ h => h) (Or.inl ⟨by kernel_rfl, ?_⟩) hHeld ?_
                rotate_left
                · intro wz hSw; have hv9 := (HV7.out.on HB7.out).on hSw; have k1 : wz.cell? ⟨gb, 1, none⟩ = some (.string xt) := hv9.head.cell 1; have k2 : wz.cell? ⟨gb, 2, none⟩ = some (.string xk) := hv9.head.cell 2; clear hv9; obtain ⟨z1, z2⟩ := HCL.out wz (HB7.out.trans (hSw.mono HB7.out.size)); go_simp; try (with_reducible rfl)
                try simp only [Act.put, List.setIfInBounds_toArray, List.set_cons_zero, List.set_cons_succ, List.getElem_toArray, List.getElem_cons_succ, List.getElem_cons_zero]
                refine take_at (some 66) (i := 5) (v := ?_) rfl rfl (by kernel_rfl) (by kernel_rfl) (by kernel_rfl) (fun _ _ _ h => h) (Or.inl ⟨by kernel_rfl, ?_⟩) hHeld ?_
                rotate_left
                · intro wz hSw; have hv9 := (HV7.out.on HB7.out).on hSw; have k1 : wz.cell? ⟨gb, 1, none⟩ = some (.string xt) := hv9.head.cell 1; have k2 : wz.cell? ⟨gb, 2, none⟩ = some (.string xk) := hv9.head.cell 2; clear hv9; obtain ⟨z1, z2⟩ := HCL.out wz (HB7.out.trans (hSw.mono HB7.out.size)); go_simp; try (with_reducible rfl)
                try simp only [Act.put, List.setIfInBounds_toArray, List.set_cons_zero, List.set_cons_succ, List.getElem_toArray, List.getElem_cons_succ, List.getElem_cons_zero]
                refine take_at (some 67) (i := 6) (v := ?_) rfl rfl (by kernel_rfl) (by kernel_rfl) (by kernel_rfl) (fun _ _ _ h => h) (Or.inl ⟨by kernel_rfl, ?_⟩) hHeld ?_
                rotate_left
                · intro wz hSw; have hv9 := (HV7.out.on HB7.out).on hSw; have k1 : wz.cell? ⟨gb, 1, none⟩ = some (.string xt) := hv9.head.cell 1; have k2 : wz.cell? ⟨gb, 2, none⟩ = some (.string xk) := hv9.head.cell 2; clear hv9; obtain ⟨z1, z2⟩ := HCL.out wz (HB7.out.trans (hSw.mono HB7.out.size)); go_simp; try (with_reducible rfl)
                try simp only [Act.put, List.setIfInBounds_toArray, List.set_cons_zero, List.set_cons_succ, List.getElem_toArray, List.getElem_cons_succ, List.getElem_cons_zero]
                refine take_at (some 68) (i := 7) (v := ?_) rfl rfl (by kernel_rfl) (by kernel_rfl) (by kernel_rfl) (fun _ _ _ h => h) (Or.inl ⟨by kernel_rfl, ?_⟩) hHeld ?_
                rotate_left
                · intro wz hSw; have hv9 := (HV7.out.on HB7.out).on hSw; have k1 : wz.cell? ⟨gb, 1, none⟩ = some (.string xt) := hv9.head.cell 1; have k2 : wz.cell? ⟨gb, 2, none⟩ = some (.string xk) := hv9.head.cell 2; clear hv9; obtain ⟨z1, z2⟩ := HCL.out wz (HB7.out.trans (hSw.mono HB7.out.size)); go_simp; try (with_reducible rfl)
                try simp only [Act.put, List.setIfInBounds_toArray, List.set_cons_zero, List.set_cons_succ, List.getElem_toArray, List.getElem_cons_succ, List.getElem_cons_zero]
                refine take_at (some 69) (i := 8) (v := ?_) rfl rfl (by kernel_rfl) (by kernel_rfl) (by kernel_rfl) (fun _ _ _ h => h) (Or.inl ⟨by kernel_rfl, ?_⟩) hHeld ?_
                rotate_left
                · intro wz hSw; have hv9 := (HV7.out.on HB7.out).on hSw; have k1 : wz.cell? ⟨gb, 1, none⟩ = some (.string xt) := hv9.head.cell 1; have k2 : wz.cell? ⟨gb, 2, none⟩ = some (.string xk) := hv9.head.cell 2; clear hv9; obtain ⟨z1, z2⟩ := HCL.out wz (HB7.out.trans (hSw.mono HB7.out.size)); go_simp; try (with_reducible rfl)
                try simp only [Act.put, List.setIfInBounds_toArray, List.set_cons_zero, List.set_cons_succ, List.getElem_toArray, List.getElem_cons_succ, List.getElem_cons_zero]
                refine take_at (some 70) (i := 9) (v := ?_) rfl rfl (by kernel_rfl) (by kernel_rfl) (by kernel_rfl) (fun _ _ _ h => h) (Or.inl ⟨by kernel_rfl, ?_⟩) hHeld ?_
                rotate_left
                · intro wz hSw; have hv9 := (HV7.out.on HB7.out).on hSw; have k1 : wz.cell? ⟨gb, 1, none⟩ = some (.string xt) := hv9.head.cell 1; have k2 : wz.cell? ⟨gb, 2, none⟩ = some (.string xk) := hv9.head.cell 2; clear hv9; obtain ⟨z1, z2⟩ := HCL.out wz (HB7.out.trans (hSw.mono HB7.out.size)); go_simp; try (with_reducible rfl)
                try simp only [Act.put, List.setIfInBounds_toArray, List.set_cons_zero, List.set_cons_succ, List.getElem_toArray, List.getElem_cons_succ, List.getElem_cons_zero]
                refine take_at (some 71) (i := 10) (v := undef) rfl rfl (by kernel_rfl) (by kernel_rfl) (by kernel_rfl) (fun _ _ _ h => h) (Or.inr ⟨by kernel_rfl, rfl⟩) hHeld ?_
                try simp only [Act.put, List.setIfInBounds_toArray, List.set_cons_zero, List.set_cons_succ, List.getElem_toArray, List.getElem_cons_succ, List.getElem_cons_zero]
                refine take_at (some 72) (i := 11) (v := undef) rfl rfl (by kernel_rfl) (by kernel_rfl) (by kernel_rfl) (fun _ _ _ h => h) (Or.inr ⟨by kernel_rfl, rfl⟩) hHeld ?_
                try simp only [Act.put, List.setIfInBounds_toArray, List.set_cons_zero, List.set_cons_succ, List.getElem_toArray, List.getElem_cons_succ, List.getElem_cons_zero]
                refine take_at (some 73) (i := 12) (v := undef) rfl rfl (by kernel_rfl) (by kernel_rfl) (by kernel_rfl) (fun _ _ _ h => h) (Or.inr ⟨by kernel_rfl, rfl⟩) hHeld ?_
                try simp only [Act.put, List.setIfInBounds_toArray, List.set_cons_zero, List.set_cons_succ, List.getElem_toArray, List.getElem_cons_succ, List.getElem_cons_zero]
                refine take_at (some 74) (i := 13) (v := undef) rfl rfl (by kernel_rfl) (by kernel_rfl) (by kernel_rfl) (fun _ _ _ h => h) (Or.inr ⟨by kernel_rfl, rfl⟩) hHeld ?_
                try simp only [Act.put, List.setIfInBounds_toArray, List.set_cons_zero, List.set_cons_succ, List.getElem_toArray, List.getElem_cons_succ, List.getElem_cons_zero]
                refine take_at (some 75) (i := 14) (v := undef) rfl rfl (by kernel_rfl) (by kernel_rfl) (by kernel_rfl) (fun _ _ _ h => h) (Or.inr ⟨by kernel_rfl, rfl⟩) hHeld ?_
                try simp only [Act.put, List.setIfInBounds_toArray, List.set_cons_zero, List.set_cons_succ, List.getElem_toArray, List.getElem_cons_succ, List.getElem_cons_zero]
                refine take_at (some 76) (i := 15) (v := undef) rfl rfl (by kernel_rfl) (by kernel_rfl) (by kernel_rfl) (fun _ _ _ h => h) (Or.inr ⟨by kernel_rfl, rfl⟩) hHeld ?_
                try simp only [Act.put, List.setIfInBounds_toArray, List.set_cons_zero, List.set_cons_succ, List.getElem_toArray, List.getElem_cons_succ, List.getElem_cons_zero]
                refine take_at (some 77) (i := 16) (v := undef) rfl rfl (by kernel_rfl) (by kernel_rfl) (by kernel_rfl) (fun _ _ _ h => h) (Or.inr ⟨by kernel_rfl, rfl⟩) hHeld ?_
                try simp only [Act.put, List.setIfInBounds_toArray, List.set_cons_zero, List.set_cons_succ, List.getElem_toArray, List.getElem_cons_succ, List.getElem_cons_zero]
                refine take_at (some 78) (i := 17) (v := undef) rfl rfl (by kernel_rfl) (by kernel_rfl) (by kernel_rfl) (fun _ _ _ h => h) (Or.inr ⟨by kernel_rfl, rfl⟩) hHeld ?_
                try simp only [Act.put, List.setIfInBounds_toArray, List.set_cons_zero, List.set_cons_succ, List.getElem_toArray, List.getElem_cons_succ, List.getElem_cons_zero]
                refine take_at (some 79) (i := 18) (v := ?_) rfl rfl (by kernel_rfl) (by kernel_rfl) (by kernel_rfl) (fun _ _ _ h => h) (Or.inl ⟨by kernel_rfl, ?_⟩) hHeld ?_
                rotate_left
                · intro wz hSw; go_simp; try (with_reducible rfl)
                try simp only [Act.put, List.setIfInBounds_toArray, List.set_cons_zero, List.set_cons_succ, List.getElem_toArray, List.getElem_cons_succ, List.getElem_cons_zero]
                refine take_at (some 80) (i := 19) (v := ?_) rfl rfl (by kernel_rfl) (by kernel_rfl) (by kernel_rfl) (fun _ _ _ h => h) (Or.inl ⟨by kernel_rfl, ?_⟩) hHeld ?_
                rotate_left
                · intro wz hSw; go_simp; try (with_reducible rfl)
                try simp only [Act.put, List.setIfInBounds_toArray, List.set_cons_zero, List.set_cons_succ, List.getElem_toArray, List.getElem_cons_succ, List.getElem_cons_zero]
                refine wpAnyH_ready (rs := [20]) (by kernel_rfl) (by simp) (AllReadyH.cons rfl (fun K hK => ?_) AllReadyH.nil)
                rw [if_pos (by kernel_rfl)]
                go_simp
                refine hK.out _ _ hHeld (fun hHeld => ?_)
                try simp only [Act.put, List.setIfInBounds_toArray, List.set_cons_zero, List.set_cons_succ, List.getElem_toArray, List.getElem_cons_succ, List.getElem_cons_zero]
                refine wpAnyH_done (by kernel_rfl) ?_ _
                refine gen_qR (fun y => Below wp.heap.size wp y) hHeld (fun y hy => ?_)
                clear hHeld
                go_wp2
                go_roundw
                case rel => exact ⟨j + 1, kk + 2, true, by omega, by have := HKK.out; omega, rfl, by go_num, Lib.hid (by rw [HST.out]; rw [show nmEq pa xt = false from hq1, Bool.false_and, Bool.or_false]; exact HF.out), Lib.hid (HB7.out.trans (hy.mono HB7.out.size))⟩
                case measure => have := HKK.out; simp [intOf]; omega
              | true =>
                cases hq2 : (pb.toList == xk.toList) with
                | false =>
                  go_upto_region 16 with fail
                  clear d1 d2 z1 z2
                  try simp only [List.cons_append, List.nil_append]
                  refine wp_region_held_drew (S := fun wz => Below wp.heap.size wp wz) (by kernel_rfl) ((Below.refl _ _).drew) (fun hHeld => ?_)
                  refine take_at (some 61) (i := 0) (v := ?_) rfl rfl (by kernel_rfl) (by kernel_rfl) (by kernel_rfl) (fun _ _ _ h => h) (Or.inl ⟨by kernel_rfl, ?_⟩) hHeld ?_
                  rotate_left
                  · intro wz hSw; have hv9 := (HV7.out.on HB7.out).on hSw; have k1 : wz.cell? ⟨gb, 1, none⟩ = some (.string xt) := hv9.head.cell 1; have k2 : wz.cell? ⟨gb, 2, none⟩ = some (.string xk) := hv9.head.cell 2; clear hv9; obtain ⟨z1, z2⟩ := HCL.out wz (HB7.out.trans (hSw.mono HB7.out.size)); go_simp; try (with_reducible rfl)
                  try simp only [Act.put, List.setIfInBounds_toArray, List.set_cons_zero, List.set_cons_succ, List.getElem_toArray, List.getElem_cons_succ, List.getElem_cons_zero]
                  refine take_at (some 62) (i := 1) (v := ?_) rfl rfl (by kernel_rfl) (by kernel_rfl) (by kernel_rfl) (fun _ _ _ h => h) (Or.inl ⟨by kernel_rfl, ?_⟩) hHeld ?_
                  rotate_left
                  · intro wz hSw; have hv9 := (HV7.out.on HB7.out).on hSw; have k1 : wz.cell? ⟨gb, 1, none⟩ = some (.string xt) := hv9.head.cell 1; have k2 : wz.cell? ⟨gb, 2, none⟩ = some (.string xk) := hv9.head.cell 2; clear hv9; obtain ⟨z1, z2⟩ := HCL.out wz (HB7.out.trans (hSw.mono HB7.out.size)); go_simp; try (with_reducible rfl)
                  try simp only [Act.put, List.setIfInBounds_toArray, List.set_cons_zero, List.set_cons_succ, List.getElem_toArray, List.getElem_cons_succ, List.getElem_cons_zero]
                  refine take_at (some 63) (i := 2) (v := ?_) rfl rfl (by kernel_rfl) (by kernel_rfl) (by kernel_rfl) (fun _ _ _ h => h) (Or.inl ⟨by kernel_rfl, ?_⟩) hHeld ?_
                  rotate_left
                  · intro wz hSw; have hv9 := (HV7.out.on HB7.out).on hSw; have k1 : wz.cell? ⟨gb, 1, none⟩ = some (.string xt) := hv9.head.cell 1; have k2 : wz.cell? ⟨gb, 2, none⟩ = some (.string xk) := hv9.head.cell 2; clear hv9; obtain ⟨z1, z2⟩ := HCL.out wz (HB7.out.trans (hSw.mono HB7.out.size)); go_simp; try (with_reducible rfl)
                  try simp only [Act.put, List.setIfInBounds_toArray, List.set_cons_zero, List.set_cons_succ, List.getElem_toArray, List.getElem_cons_succ, List.getElem_cons_zero]
                  refine take_at (some 64) (i := 3) (v := ?_) rfl rfl (by kernel_rfl) (by kernel_rfl) (by kernel_rfl) (fun _ _ _ h => h) (Or.inl ⟨by kernel_rfl, ?_⟩) hHeld ?_
                  rotate_left
                  · intro wz hSw; have hv9 := (HV7.out.on HB7.out).on hSw; have k1 : wz.cell? ⟨gb, 1, none⟩ = some (.string xt) := hv9.head.cell 1; have k2 : wz.cell? ⟨gb, 2, none⟩ = some (.string xk) := hv9.head.cell 2; clear hv9; obtain ⟨z1, z2⟩ := HCL.out wz (HB7.out.trans (hSw.mono HB7.out.size)); go_simp; try (with_reducible rfl)
                  try simp only [Act.put, List.setIfInBounds_toArray, List.set_cons_zero, List.set_cons_succ, List.getElem_toArray, List.getElem_cons_succ, List.getElem_cons_zero]
                  refine take_at (some 65) (i := 4) (v := ?_) rfl rfl (by kernel_rfl) (by kernel_rfl) (by kernel_rfl) (fun _ _ _ h => h) (Or.inl ⟨by kernel_rfl, ?_⟩) hHeld ?_
                  rotate_left
                  · intro wz hSw; have hv9 := (HV7.out.on HB7.out).on hSw; have k1 : wz.cell? ⟨gb, 1, none⟩ = some (.string xt) := hv9.head.cell 1; have k2 : wz.cell? ⟨gb, 2, none⟩ = some (.string xk) := hv9.head.cell 2; clear hv9; obtain ⟨z1, z2⟩ := HCL.out wz (HB7.out.trans (hSw.mono HB7.out.size)); go_simp; try (with_reducible rfl)
                  try simp only [Act.put, List.setIfInBounds_toArray, List.set_cons_zero, List.set_cons_succ, List.getElem_toArray, List.getElem_cons_succ, List.getElem_cons_zero]
                  refine take_at (some 66) (i := 5) (v := ?_) rfl rfl (by kernel_rfl) (by kernel_rfl) (by kernel_rfl) (fun _ _ _ h => h) (Or.inl ⟨by kernel_rfl, ?_⟩) hHeld ?_
                  rotate_left
                  · intro wz hSw; have hv9 := (HV7.out.on HB7.out).on hSw; have k1 : wz.cell? ⟨gb, 1, none⟩ = some (.string xt) := hv9.head.cell 1; have k2 : wz.cell? ⟨gb, 2, none⟩ = some (.string xk) := hv9.head.cell 2; clear hv9; obtain ⟨z1, z2⟩ := HCL.out wz (HB7.out.trans (hSw.mono HB7.out.size)); go_simp; try (with_reducible rfl)
                  try simp only [Act.put, List.setIfInBounds_toArray, List.set_cons_zero, List.set_cons_succ, List.getElem_toArray, List.getElem_cons_succ, List.getElem_cons_zero]
                  refine take_at (some 67) (i := 6) (v := ?_) rfl rfl (by kernel_rfl) (by kernel_rfl) (by kernel_rfl) (fun _ _ _ h => h) (Or.inl ⟨by kernel_rfl, ?_⟩) hHeld ?_
                  rotate_left
                  · intro wz hSw; have hv9 := (HV7.out.on HB7.out).on hSw; have k1 : wz.cell? ⟨gb, 1, none⟩ = some (.string xt) := hv9.head.cell 1; have k2 : wz.cell? ⟨gb, 2, none⟩ = some (.string xk) := hv9.head.cell 2; clear hv9; obtain ⟨z1, z2⟩ := HCL.out wz (HB7.out.trans (hSw.mono HB7.out.size)); go_simp; try (with_reducible rfl)
                  try simp only [Act.put, List.setIfInBounds_toArray, List.set_cons_zero, List.set_cons_succ, List.getElem_toArray, List.getElem_cons_succ, List.getElem_cons_zero]
                  refine take_at (some 68) (i := 7) (v := ?_) rfl rfl (by kernel_rfl) (by kernel_rfl) (by kernel_rfl) (fun _ _ _ h => h) (Or.inl ⟨by kernel_rfl, ?_⟩) hHeld ?_
                  rotate_left
                  · intro wz hSw; have hv9 := (HV7.out.on HB7.out).on hSw; have k1 : wz.cell? ⟨gb, 1, none⟩ = some (.string xt) := hv9.head.cell 1; have k2 : wz.cell? ⟨gb, 2, none⟩ = some (.string xk) := hv9.head.cell 2; clear hv9; obtain ⟨z1, z2⟩ := HCL.out wz (HB7.out.trans (hSw.mono HB7.out.size)); go_simp; try (with_reducible rfl)
                  try simp only [Act.put, List.setIfInBounds_toArray, List.set_cons_zero, List.set_cons_succ, List.getElem_toArray, List.getElem_cons_succ, List.getElem_cons_zero]
                  refine take_at (some 69) (i := 8) (v := ?_) rfl rfl (by kernel_rfl) (by kernel_rfl) (by kernel_rfl) (fun _ _ _ h => h) (Or.inl ⟨by kernel_rfl, ?_⟩) hHeld ?_
                  rotate_left
                  · intro wz hSw; have hv9 := (HV7.out.on HB7.out).on hSw; have k1 : wz.cell? ⟨gb, 1, none⟩ = some (.string xt) := hv9.head.cell 1; have k2 : wz.cell? ⟨gb, 2, none⟩ = some (.string xk) := hv9.head.cell 2; clear hv9; obtain ⟨z1, z2⟩ := HCL.out wz (HB7.out.trans (hSw.mono HB7.out.size)); go_simp; try (with_reducible rfl)
                  try simp only [Act.put, List.setIfInBounds_toArray, List.set_cons_zero, List.set_cons_succ, List.getElem_toArray, List.getElem_cons_succ, List.getElem_cons_zero]
                  refine take_at (some 70) (i := 9) (v := ?_) rfl rfl (by kernel_rfl) (by kernel_rfl) (by kernel_rfl) (fun _ _ _ h => h) (Or.inl ⟨by kernel_rfl, ?_⟩) hHeld ?_
                  rotate_left
                  · intro wz hSw; have hv9 := (HV7.out.on HB7.out).on hSw; have k1 : wz.cell? ⟨gb, 1, none⟩ = some (.string xt) := hv9.head.cell 1; have k2 : wz.cell? ⟨gb, 2, none⟩ = some (.string xk) := hv9.head.cell 2; clear hv9; obtain ⟨z1, z2⟩ := HCL.out wz (HB7.out.trans (hSw.mono HB7.out.size)); go_simp; try (with_reducible rfl)
                  try simp only [Act.put, List.setIfInBounds_toArray, List.set_cons_zero, List.set_cons_succ, List.getElem_toArray, List.getElem_cons_succ, List.getElem_cons_zero]
                  refine take_at (some 71) (i := 10) (v := ?_) rfl rfl (by kernel_rfl) (by kernel_rfl) (by kernel_rfl) (fun _ _ _ h => h) (Or.inl ⟨by kernel_rfl, ?_⟩) hHeld ?_
                  rotate_left
                  · intro wz hSw; have hv9 := (HV7.out.on HB7.out).on hSw; have k1 : wz.cell? ⟨gb, 1, none⟩ = some (.string xt) := hv9.head.cell 1; have k2 : wz.cell? ⟨gb, 2, none⟩ = some (.string xk) := hv9.head.cell 2; clear hv9; obtain ⟨z1, z2⟩ := HCL.out wz (HB7.out.trans (hSw.mono HB7.out.size)); go_simp; try (with_reducible rfl)
                  try simp only [Act.put, List.setIfInBounds_toArray, List.set_cons_zero, List.set_cons_succ, List.getElem_toArray, List.getElem_cons_succ, List.getElem_cons_zero]
                  refine take_at (some 72) (i := 11) (v := ?_) rfl rfl (by kernel_rfl) (by kernel_rfl) (by kernel_rfl) (fun _ _ _ h => h) (Or.inl ⟨by kernel_rfl, ?_⟩) hHeld ?_
                  rotate_left
                  · intro wz hSw; have hv9 := (HV7.out.on HB7.out).on hSw; have k1 : wz.cell? ⟨gb, 1, none⟩ = some (.string xt) := hv9.head.cell 1; have k2 : wz.cell? ⟨gb, 2, none⟩ = some (.string xk) := hv9.head.cell 2; clear hv9; obtain ⟨z1, z2⟩ := HCL.out wz (HB7.out.trans (hSw.mono HB7.out.size)); go_simp; try (with_reducible rfl)
                  try simp only [Act.put, List.setIfInBounds_toArray, List.set_cons_zero, List.set_cons_succ, List.getElem_toArray, List.getElem_cons_succ, List.getElem_cons_zero]
                  refine take_at (some 73) (i := 12) (v := ?_) rfl rfl (by kernel_rfl) (by kernel_rfl) (by kernel_rfl) (fun _ _ _ h => h) (Or.inl ⟨by kernel_rfl, ?_⟩) hHeld ?_
                  rotate_left
                  · intro wz hSw; have hv9 := (HV7.out.on HB7.out).on hSw; have k1 : wz.cell? ⟨gb, 1, none⟩ = some (.string xt) := hv9.head.cell 1; have k2 : wz.cell? ⟨gb, 2, none⟩ = some (.string xk) := hv9.head.cell 2; clear hv9; obtain ⟨z1, z2⟩ := HCL.out wz (HB7.out.trans (hSw.mono HB7.out.size)); go_simp; try (with_reducible rfl)
                  try simp only [Act.put, List.setIfInBounds_toArray, List.set_cons_zero, List.set_cons_succ, List.getElem_toArray, List.getElem_cons_succ, List.getElem_cons_zero]
                  refine take_at (some 74) (i := 13) (v := ?_) rfl rfl (by kernel_rfl) (by kernel_rfl) (by kernel_rfl) (fun _ _ _ h => h) (Or.inl ⟨by kernel_rfl, ?_⟩) hHeld ?_
                  rotate_left
                  · intro wz hSw; have hv9 := (HV7.out.on HB7.out).on hSw; have k1 : wz.cell? ⟨gb, 1, none⟩ = some (.string xt) := hv9.head.cell 1; have k2 : wz.cell? ⟨gb, 2, none⟩ = some (.string xk) := hv9.head.cell 2; clear hv9; obtain ⟨z1, z2⟩ := HCL.out wz (HB7.out.trans (hSw.mono HB7.out.size)); go_simp; try (with_reducible rfl)
                  try simp only [Act.put, List.setIfInBounds_toArray, List.set_cons_zero, List.set_cons_succ, List.getElem_toArray, List.getElem_cons_succ, List.getElem_cons_zero]
                  refine take_at (some 75) (i := 14) (v := ?_) rfl rfl (by kernel_rfl) (by kernel_rfl) (by kernel_rfl) (fun _ _ _ h => h) (Or.inl ⟨by kernel_rfl, ?_⟩) hHeld ?_
                  rotate_left
                  · intro wz hSw; have hv9 := (HV7.out.on HB7.out).on hSw; have k1 : wz.cell? ⟨gb, 1, none⟩ = some (.string xt) := hv9.head.cell 1; have k2 : wz.cell? ⟨gb, 2, none⟩ = some (.string xk) := hv9.head.cell 2; clear hv9; obtain ⟨z1, z2⟩ := HCL.out wz (HB7.out.trans (hSw.mono HB7.out.size)); go_simp; try (with_reducible rfl)
                  try simp only [Act.put, List.setIfInBounds_toArray, List.set_cons_zero, List.set_cons_succ, List.getElem_toArray, List.getElem_cons_succ, List.getElem_cons_zero]
                  refine take_at (some 76) (i := 15) (v := ?_) rfl rfl (by kernel_rfl) (by kernel_rfl) (by kernel_rfl) (fun _ _ _ h => h) (Or.inl ⟨by kernel_rfl, ?_⟩) hHeld ?_
                  rotate_left
                  · intro wz hSw; have hv9 := (HV7.out.on HB7.out).on hSw; have k1 : wz.cell? ⟨gb, 1, none⟩ = some (.string xt) := hv9.head.cell 1; have k2 : wz.cell? ⟨gb, 2, none⟩ = some (.string xk) := hv9.head.cell 2; clear hv9; obtain ⟨z1, z2⟩ := HCL.out wz (HB7.out.trans (hSw.mono HB7.out.size)); go_simp; try (with_reducible rfl)
                  try simp only [Act.put, List.setIfInBounds_toArray, List.set_cons_zero, List.set_cons_succ, List.getElem_toArray, List.getElem_cons_succ, List.getElem_cons_zero]
                  refine take_at (some 77) (i := 16) (v := ?_) rfl rfl (by kernel_rfl) (by kernel_rfl) (by kernel_rfl) (fun _ _ _ h => h) (Or.inl ⟨by kernel_rfl, ?_⟩) hHeld ?_
                  rotate_left
                  · intro wz hSw; have hv9 := (HV7.out.on HB7.out).on hSw; have k1 : wz.cell? ⟨gb, 1, none⟩ = some (.string xt) := hv9.head.cell 1; have k2 : wz.cell? ⟨gb, 2, none⟩ = some (.string xk) := hv9.head.cell 2; clear hv9; obtain ⟨z1, z2⟩ := HCL.out wz (HB7.out.trans (hSw.mono HB7.out.size)); go_simp; try (with_reducible rfl)
                  try simp only [Act.put, List.setIfInBounds_toArray, List.set_cons_zero, List.set_cons_succ, List.getElem_toArray, List.getElem_cons_succ, List.getElem_cons_zero]
                  refine take_at (some 78) (i := 17) (v := ?_) rfl rfl (by kernel_rfl) (by kernel_rfl) (by kernel_rfl) (fun _ _ _ h => h) (Or.inl ⟨by kernel_rfl, ?_⟩) hHeld ?_
                  rotate_left
                  · intro wz hSw; have hv9 := (HV7.out.on HB7.out).on hSw; have k1 : wz.cell? ⟨gb, 1, none⟩ = some (.string xt) := hv9.head.cell 1; have k2 : wz.cell? ⟨gb, 2, none⟩ = some (.string xk) := hv9.head.cell 2; clear hv9; obtain ⟨z1, z2⟩ := HCL.out wz (HB7.out.trans (hSw.mono HB7.out.size)); go_simp; try (with_reducible rfl)
                  try simp only [Act.put, List.setIfInBounds_toArray, List.set_cons_zero, List.set_cons_succ, List.getElem_toArray, List.getElem_cons_succ, List.getElem_cons_zero]
                  refine take_at (some 79) (i := 18) (v := ?_) rfl rfl (by kernel_rfl) (by kernel_rfl) (by kernel_rfl) (fun _ _ _ h => h) (Or.inl ⟨by kernel_rfl, ?_⟩) hHeld ?_
                  rotate_left
                  · intro wz hSw; have hv9 := (HV7.out.on HB7.out).on hSw; have k1 : wz.cell? ⟨gb, 1, none⟩ = some (.string xt) := hv9.head.cell 1; have k2 : wz.cell? ⟨gb, 2, none⟩ = some (.string xk) := hv9.head.cell 2; clear hv9; obtain ⟨z1, z2⟩ := HCL.out wz (HB7.out.trans (hSw.mono HB7.out.size)); go_simp; try (with_reducible rfl)
                  try simp only [Act.put, List.setIfInBounds_toArray, List.set_cons_zero, List.set_cons_succ, List.getElem_toArray, List.getElem_cons_succ, List.getElem_cons_zero]
                  refine take_at (some 80) (i := 19) (v := ?_) rfl rfl (by kernel_rfl) (by kernel_rfl) (by kernel_rfl) (fun _ _ _ h => h) (Or.inl ⟨by kernel_rfl, ?_⟩) hHeld ?_
                  rotate_left
                  · intro wz hSw; have hv9 := (HV7.out.on HB7.out).on hSw; have k1 : wz.cell? ⟨gb, 1, none⟩ = some (.string xt) := hv9.head.cell 1; have k2 : wz.cell? ⟨gb, 2, none⟩ = some (.string xk) := hv9.head.cell 2; clear hv9; obtain ⟨z1, z2⟩ := HCL.out wz (HB7.out.trans (hSw.mono HB7.out.size)); go_simp; try (with_reducible rfl)
                  try simp only [Act.put, List.setIfInBounds_toArray, List.set_cons_zero, List.set_cons_succ, List.getElem_toArray, List.getElem_cons_succ, List.getElem_cons_zero]
                  refine wpAnyH_ready (rs := [20]) (by kernel_rfl) (by simp) (AllReadyH.cons rfl (fun K hK => ?_) AllReadyH.nil)
                  rw [if_pos (by kernel_rfl)]
                  go_simp
                  refine hK.out _ _ hHeld (fun hHeld => ?_)
                  try simp only [Act.put, List.setIfInBounds_toArray, List.set_cons_zero, List.set_cons_succ, List.getElem_toArray, List.getElem_cons_succ, List.getElem_cons_zero]
                  refine wpAnyH_done (by kernel_rfl) ?_ _
                  refine gen_qR (fun y => Below wp.heap.size wp y) hHeld (fun y hy => ?_)
                  clear hHeld
                  go_wp2
                  go_roundw
                  case rel => exact ⟨j + 1, kk + 2, true, by omega, by have := HKK.out; omega, rfl, by go_num, Lib.hid (by rw [HST.out]; rw [show nmEq pb xk = false from hq2, Bool.and_false, Bool.or_false]; exact HF.out), Lib.hid (HB7.out.trans (hy.mono HB7.out.size))⟩
                  case measure => have := HKK.out; simp [intOf]; omega
                | true =>
                  go_upto_region 16 with fail
                  clear d1 d2 z1 z2
                  try simp only [List.cons_append, List.nil_append]
                  refine wp_region_held_drew (S := fun wz => Below wp.heap.size wp wz) (by kernel_rfl) ((Below.refl _ _).drew) (fun hHeld => ?_)
                  refine take_at (some 61) (i := 0) (v := ?_) rfl rfl (by kernel_rfl) (by kernel_rfl) (by kernel_rfl) (fun _ _ _ h => h) (Or.inl ⟨by kernel_rfl, ?_⟩) hHeld ?_
                  rotate_left
                  · intro wz hSw; have hv9 := (HV7.out.on HB7.out).on hSw; have k1 : wz.cell? ⟨gb, 1, none⟩ = some (.string xt) := hv9.head.cell 1; have k2 : wz.cell? ⟨gb, 2, none⟩ = some (.string xk) := hv9.head.cell 2; clear hv9; obtain ⟨z1, z2⟩ := HCL.out wz (HB7.out.trans (hSw.mono HB7.out.size)); go_simp; try (with_reducible rfl)
                  try simp only [Act.put, List.setIfInBounds_toArray, List.set_cons_zero, List.set_cons_succ, List.getElem_toArray, List.getElem_cons_succ, List.getElem_cons_zero]
                  refine take_at (some 62) (i := 1) (v := ?_) rfl rfl (by kernel_rfl) (by kernel_rfl) (by kernel_rfl) (fun _ _ _ h => h) (Or.inl ⟨by kernel_rfl, ?_⟩) hHeld ?_
                  rotate_left
                  · intro wz hSw; have hv9 := (HV7.out.on HB7.out).on hSw; have k1 : wz.cell? ⟨gb, 1, none⟩ = some (.string xt) := hv9.head.cell 1; have k2 : wz.cell? ⟨gb, 2, none⟩ = some (.string xk) := hv9.head.cell 2; clear hv9; obtain ⟨z1, z2⟩ := HCL.out wz (HB7.out.trans (hSw.mono HB7.out.size)); go_simp; try (with_reducible rfl)
                  try simp only [Act.put, List.setIfInBounds_toArray, List.set_cons_zero, List.set_cons_succ, List.getElem_toArray, List.getElem_cons_succ, List.getElem_cons_zero]
                  refine take_at (some 63) (i := 2) (v := ?_) rfl rfl (by kernel_rfl) (by kernel_rfl) (by kernel_rfl) (fun _ _ _ h => h) (Or.inl ⟨by kernel_rfl, ?_⟩) hHeld ?_
                  rotate_left
                  · intro wz hSw; have hv9 := (HV7.out.on HB7.out).on hSw; have k1 : wz.cell? ⟨gb, 1, none⟩ = some (.string xt) := hv9.head.cell 1; have k2 : wz.cell? ⟨gb, 2, none⟩ = some (.string xk) := hv9.head.cell 2; clear hv9; obtain ⟨z1, z2⟩ := HCL.out wz (HB7.out.trans (hSw.mono HB7.out.size)); go_simp; try (with_reducible rfl)
                  try simp only [Act.put, List.setIfInBounds_toArray, List.set_cons_zero, List.set_cons_succ, List.getElem_toArray, List.getElem_cons_succ, List.getElem_cons_zero]
                  refine take_at (some 64) (i := 3) (v := ?_) rfl rfl (by kernel_rfl) (by kernel_rfl) (by kernel_rfl) (fun _ _ _ h => h) (Or.inl ⟨by kernel_rfl, ?_⟩) hHeld ?_
                  rotate_left
                  · intro wz hSw; have hv9 := (HV7.out.on HB7.out).on hSw; have k1 : wz.cell? ⟨gb, 1, none⟩ = some (.string xt) := hv9.head.cell 1; have k2 : wz.cell? ⟨gb, 2, none⟩ = some (.string xk) := hv9.head.cell 2; clear hv9; obtain ⟨z1, z2⟩ := HCL.out wz (HB7.out.trans (hSw.mono HB7.out.size)); go_simp; try (with_reducible rfl)
                  try simp only [Act.put, List.setIfInBounds_toArray, List.set_cons_zero, List.set_cons_succ, List.getElem_toArray, List.getElem_cons_succ, List.getElem_cons_zero]
                  refine take_at (some 65) (i := 4) (v := ?_) rfl rfl (by kernel_rfl) (by kernel_rfl) (by kernel_rfl) (fun _ _ _ h => h) (Or.inl ⟨by kernel_rfl, ?_⟩) hHeld ?_
                  rotate_left
                  · intro wz hSw; have hv9 := (HV7.out.on HB7.out).on hSw; have k1 : wz.cell? ⟨gb, 1, none⟩ = some (.string xt) := hv9.head.cell 1; have k2 : wz.cell? ⟨gb, 2, none⟩ = some (.string xk) := hv9.head.cell 2; clear hv9; obtain ⟨z1, z2⟩ := HCL.out wz (HB7.out.trans (hSw.mono HB7.out.size)); go_simp; try (with_reducible rfl)
                  try simp only [Act.put, List.setIfInBounds_toArray, List.set_cons_zero, List.set_cons_succ, List.getElem_toArray, List.getElem_cons_succ, List.getElem_cons_zero]
                  refine take_at (some 66) (i := 5) (v := ?_) rfl rfl (by kernel_rfl) (by kernel_rfl) (by kernel_rfl) (fun _ _ _ h => h) (Or.inl ⟨by kernel_rfl, ?_⟩) hHeld ?_
                  rotate_left
                  · intro wz hSw; have hv9 := (HV7.out.on HB7.out).on hSw; have k1 : wz.cell? ⟨gb, 1, none⟩ = some (.string xt) := hv9.head.cell 1; have k2 : wz.cell? ⟨gb, 2, none⟩ = some (.string xk) := hv9.head.cell 2; clear hv9; obtain ⟨z1, z2⟩ := HCL.out wz (HB7.out.trans (hSw.mono HB7.out.size)); go_simp; try (with_reducible rfl)
                  try simp only [Act.put, List.setIfInBounds_toArray, List.set_cons_zero, List.set_cons_succ, List.getElem_toArray, List.getElem_cons_succ, List.getElem_cons_zero]
                  refine take_at (some 67) (i := 6) (v := ?_) rfl rfl (by kernel_rfl) (by kernel_rfl) (by kernel_rfl) (fun _ _ _ h => h) (Or.inl ⟨by kernel_rfl, ?_⟩) hHeld ?_
                  rotate_left
                  · intro wz hSw; have hv9 := (HV7.out.on HB7.out).on hSw; have k1 : wz.cell? ⟨gb, 1, none⟩ = some (.string xt) := hv9.head.cell 1; have k2 : wz.cell? ⟨gb, 2, none⟩ = some (.string xk) := hv9.head.cell 2; clear hv9; obtain ⟨z1, z2⟩ := HCL.out wz (HB7.out.trans (hSw.mono HB7.out.size)); go_simp; try (with_reducible rfl)
                  try simp only [Act.put, List.setIfInBounds_toArray, List.set_cons_zero, List.set_cons_succ, List.getElem_toArray, List.getElem_cons_succ, List.getElem_cons_zero]
                  refine take_at (some 68) (i := 7) (v := ?_) rfl rfl (by kernel_rfl) (by kernel_rfl) (by kernel_rfl) (fun _ _ _ h => h) (Or.inl ⟨by kernel_rfl, ?_⟩) hHeld ?_
                  rotate_left
                  · intro wz hSw; have hv9 := (HV7.out.on HB7.out).on hSw; have k1 : wz.cell? ⟨gb, 1, none⟩ = some (.string xt) := hv9.head.cell 1; have k2 : wz.cell? ⟨gb, 2, none⟩ = some (.string xk) := hv9.head.cell 2; clear hv9; obtain ⟨z1, z2⟩ := HCL.out wz (HB7.out.trans (hSw.mono HB7.out.size)); go_simp; try (with_reducible rfl)
                  try simp only [Act.put, List.setIfInBounds_toArray, List.set_cons_zero, List.set_cons_succ, List.getElem_toArray, List.getElem_cons_succ, List.getElem_cons_zero]
                  refine take_at (some 69) (i := 8) (v := ?_) rfl rfl (by kernel_rfl) (by kernel_rfl) (by kernel_rfl) (fun _ _ _ h => h) (Or.inl ⟨by kernel_rfl, ?_⟩) hHeld ?_
                  rotate_left
                  · intro wz hSw; have hv9 := (HV7.out.on HB7.out).on hSw; have k1 : wz.cell? ⟨gb, 1, none⟩ = some (.string xt) := hv9.head.cell 1; have k2 : wz.cell? ⟨gb, 2, none⟩ = some (.string xk) := hv9.head.cell 2; clear hv9; obtain ⟨z1, z2⟩ := HCL.out wz (HB7.out.trans (hSw.mono HB7.out.size)); go_simp; try (with_reducible rfl)
                  try simp only [Act.put, List.setIfInBounds_toArray, List.set_cons_zero, List.set_cons_succ, List.getElem_toArray, List.getElem_cons_succ, List.getElem_cons_zero]
                  refine take_at (some 70) (i := 9) (v := ?_) rfl rfl (by kernel_rfl) (by kernel_rfl) (by kernel_rfl) (fun _ _ _ h => h) (Or.inl ⟨by kernel_rfl, ?_⟩) hHeld ?_
                  rotate_left
                  · intro wz hSw; have hv9 := (HV7.out.on HB7.out).on hSw; have k1 : wz.cell? ⟨gb, 1, none⟩ = some (.string xt) := hv9.head.cell 1; have k2 : wz.cell? ⟨gb, 2, none⟩ = some (.string xk) := hv9.head.cell 2; clear hv9; obtain ⟨z1, z2⟩ := HCL.out wz (HB7.out.trans (hSw.mono HB7.out.size)); go_simp; try (with_reducible rfl)
                  try simp only [Act.put, List.setIfInBounds_toArray, List.set_cons_zero, List.set_cons_succ, List.getElem_toArray, List.getElem_cons_succ, List.getElem_cons_zero]
                  refine take_at (some 71) (i := 10) (v := ?_) rfl rfl (by kernel_rfl) (by kernel_rfl) (by kernel_rfl) (fun _ _ _ h => h) (Or.inl ⟨by kernel_rfl, ?_⟩) hHeld ?_
                  rotate_left
                  · intro wz hSw; have hv9 := (HV7.out.on HB7.out).on hSw; have k1 : wz.cell? ⟨gb, 1, none⟩ = some (.string xt) := hv9.head.cell 1; have k2 : wz.cell? ⟨gb, 2, none⟩ = some (.string xk) := hv9.head.cell 2; clear hv9; obtain ⟨z1, z2⟩ := HCL.out wz (HB7.out.trans (hSw.mono HB7.out.size)); go_simp; try (with_reducible rfl)
                  try simp only [Act.put, List.setIfInBounds_toArray, List.set_cons_zero, List.set_cons_succ, List.getElem_toArray, List.getElem_cons_succ, List.getElem_cons_zero]
                  refine take_at (some 72) (i := 11) (v := ?_) rfl rfl (by kernel_rfl) (by kernel_rfl) (by kernel_rfl) (fun _ _ _ h => h) (Or.inl ⟨by kernel_rfl, ?_⟩) hHeld ?_
                  rotate_left
                  · intro wz hSw; have hv9 := (HV7.out.on HB7.out).on hSw; have k1 : wz.cell? ⟨gb, 1, none⟩ = some (.string xt) := hv9.head.cell 1; have k2 : wz.cell? ⟨gb, 2, none⟩ = some (.string xk) := hv9.head.cell 2; clear hv9; obtain ⟨z1, z2⟩ := HCL.out wz (HB7.out.trans (hSw.mono HB7.out.size)); go_simp; try (with_reducible rfl)
                  try simp only [Act.put, List.setIfInBounds_toArray, List.set_cons_zero, List.set_cons_succ, List.getElem_toArray, List.getElem_cons_succ, List.getElem_cons_zero]
                  refine take_at (some 73) (i := 12) (v := ?_) rfl rfl (by kernel_rfl) (by kernel_rfl) (by kernel_rfl) (fun _ _ _ h => h) (Or.inl ⟨by kernel_rfl, ?_⟩) hHeld ?_
                  rotate_left
                  · intro wz hSw; have hv9 := (HV7.out.on HB7.out).on hSw; have k1 : wz.cell? ⟨gb, 1, none⟩ = some (.string xt) := hv9.head.cell 1; have k2 : wz.cell? ⟨gb, 2, none⟩ = some (.string xk) := hv9.head.cell 2; clear hv9; obtain ⟨z1, z2⟩ := HCL.out wz (HB7.out.trans (hSw.mono HB7.out.size)); go_simp; try (with_reducible rfl)
                  try simp only [Act.put, List.setIfInBounds_toArray, List.set_cons_zero, List.set_cons_succ, List.getElem_toArray, List.getElem_cons_succ, List.getElem_cons_zero]
                  refine take_at (some 74) (i := 13) (v := ?_) rfl rfl (by kernel_rfl) (by kernel_rfl) (by kernel_rfl) (fun _ _ _ h => h) (Or.inl ⟨by kernel_rfl, ?_⟩) hHeld ?_
                  rotate_left
                  · intro wz hSw; have hv9 := (HV7.out.on HB7.out).on hSw; have k1 : wz.cell? ⟨gb, 1, none⟩ = some (.string xt) := hv9.head.cell 1; have k2 : wz.cell? ⟨gb, 2, none⟩ = some (.string xk) := hv9.head.cell 2; clear hv9; obtain ⟨z1, z2⟩ := HCL.out wz (HB7.out.trans (hSw.mono HB7.out.size)); go_simp; try (with_reducible rfl)
                  try simp only [Act.put, List.setIfInBounds_toArray, List.set_cons_zero, List.set_cons_succ, List.getElem_toArray, List.getElem_cons_succ, List.getElem_cons_zero]
                  refine take_at (some 75) (i := 14) (v := ?_) rfl rfl (by kernel_rfl) (by kernel_rfl) (by kernel_rfl) (fun _ _ _ h => h) (Or.inl ⟨by kernel_rfl, ?_⟩) hHeld ?_
                  rotate_left
                  · intro wz hSw; have hv9 := (HV7.out.on HB7.out).on hSw; have k1 : wz.cell? ⟨gb, 1, none⟩ = some (.string xt) := hv9.head.cell 1; have k2 : wz.cell? ⟨gb, 2, none⟩ = some (.string xk) := hv9.head.cell 2; clear hv9; obtain ⟨z1, z2⟩ := HCL.out wz (HB7.out.trans (hSw.mono HB7.out.size)); go_simp; try (with_reducible rfl)
                  try simp only [Act.put, List.setIfInBounds_toArray, List.set_cons_zero, List.set_cons_succ, List.getElem_toArray, List.getElem_cons_succ, List.getElem_cons_zero]
                  refine take_at (some 76) (i := 15) (v := ?_) rfl rfl (by kernel_rfl) (by kernel_rfl) (by kernel_rfl) (fun _ _ _ h => h) (Or.inl ⟨by kernel_rfl, ?_⟩) hHeld ?_
                  rotate_left
                  · intro wz hSw; have hv9 := (HV7.out.on HB7.out).on hSw; have k1 : wz.cell? ⟨gb, 1, none⟩ = some (.string xt) := hv9.head.cell 1; have k2 : wz.cell? ⟨gb, 2, none⟩ = some (.string xk) := hv9.head.cell 2; clear hv9; obtain ⟨z1, z2⟩ := HCL.out wz (HB7.out.trans (hSw.mono HB7.out.size)); go_simp; try (with_reducible rfl)
                  try simp only [Act.put, List.setIfInBounds_toArray, List.set_cons_zero, List.set_cons_succ, List.getElem_toArray, List.getElem_cons_succ, List.getElem_cons_zero]
                  refine take_at (some 77) (i := 16) (v := ?_) rfl rfl (by kernel_rfl) (by kernel_rfl) (by kernel_rfl) (fun _ _ _ h => h) (Or.inl ⟨by kernel_rfl, ?_⟩) hHeld ?_
                  rotate_left
                  · intro wz hSw; have hv9 := (HV7.out.on HB7.out).on hSw; have k1 : wz.cell? ⟨gb, 1, none⟩ = some (.string xt) := hv9.head.cell 1; have k2 : wz.cell? ⟨gb, 2, none⟩ = some (.string xk) := hv9.head.cell 2; clear hv9; obtain ⟨z1, z2⟩ := HCL.out wz (HB7.out.trans (hSw.mono HB7.out.size)); go_simp; try (with_reducible rfl)
                  try simp only [Act.put, List.setIfInBounds_toArray, List.set_cons_zero, List.set_cons_succ, List.getElem_toArray, List.getElem_cons_succ, List.getElem_cons_zero]
                  refine take_at (some 78) (i := 17) (v := ?_) rfl rfl (by kernel_rfl) (by kernel_rfl) (by kernel_rfl) (fun _ _ _ h => h) (Or.inl ⟨by kernel_rfl, ?_⟩) hHeld ?_
                  rotate_left
                  · intro wz hSw; have hv9 := (HV7.out.on HB7.out).on hSw; have k1 : wz.cell? ⟨gb, 1, none⟩ = some (.string xt) := hv9.head.cell 1; have k2 : wz.cell? ⟨gb, 2, none⟩ = some (.string xk) := hv9.head.cell 2; clear hv9; obtain ⟨z1, z2⟩ := HCL.out wz (HB7.out.trans (hSw.mono HB7.out.size)); go_simp; try (with_reducible rfl)
                  try simp only [Act.put, List.setIfInBounds_toArray, List.set_cons_zero, List.set_cons_succ, List.getElem_toArray, List.getElem_cons_succ, List.getElem_cons_zero]
                  refine take_at (some 79) (i := 18) (v := ?_) rfl rfl (by kernel_rfl) (by kernel_rfl) (by kernel_rfl) (fun _ _ _ h => h) (Or.inl ⟨by kernel_rfl, ?_⟩) hHeld ?_
                  rotate_left
                  · intro wz hSw; have hv9 := (HV7.out.on HB7.out).on hSw; have k1 : wz.cell? ⟨gb, 1, none⟩ = some (.string xt) := hv9.head.cell 1; have k2 : wz.cell? ⟨gb, 2, none⟩ = some (.string xk) := hv9.head.cell 2; clear hv9; obtain ⟨z1, z2⟩ := HCL.out wz (HB7.out.trans (hSw.mono HB7.out.size)); go_simp; try (with_reducible rfl)
                  try simp only [Act.put, List.setIfInBounds_toArray, List.set_cons_zero, List.set_cons_succ, List.getElem_toArray, List.getElem_cons_succ, List.getElem_cons_zero]
                  refine take_at (some 80) (i := 19) (v := ?_) rfl rfl (by kernel_rfl) (by kernel_rfl) (by kernel_rfl) (fun _ _ _ h => h) (Or.inl ⟨by kernel_rfl, ?_⟩) hHeld ?_
                  rotate_left
                  · intro wz hSw; have hv9 := (HV7.out.on HB7.out).on hSw; have k1 : wz.cell? ⟨gb, 1, none⟩ = some (.string xt) := hv9.head.cell 1; have k2 : wz.cell? ⟨gb, 2, none⟩ = some (.string xk) := hv9.head.cell 2; clear hv9; obtain ⟨z1, z2⟩ := HCL.out wz (HB7.out.trans (hSw.mono HB7.out.size)); go_simp; try (with_reducible rfl)
                  try simp only [Act.put, List.setIfInBounds_toArray, List.set_cons_zero, List.set_cons_succ, List.getElem_toArray, List.getElem_cons_succ, List.getElem_cons_zero]
                  refine wpAnyH_ready (rs := [20]) (by kernel_rfl) (by simp) (AllReadyH.cons rfl (fun K hK => ?_) AllReadyH.nil)
                  rw [if_pos (by kernel_rfl)]
                  go_simp
                  refine hK.out _ _ hHeld (fun hHeld => ?_)
                  try simp only [Act.put, List.setIfInBounds_toArray, List.set_cons_zero, List.set_cons_succ, List.getElem_toArray, List.getElem_cons_succ, List.getElem_cons_zero]
                  refine wpAnyH_done (by kernel_rfl) ?_ _
                  refine gen_qR (fun y => Below wp.heap.size wp y) hHeld (fun y hy => ?_)
                  clear hHeld
                  go_wp2
                  go_roundw
                  case rel => exact ⟨j + 1, kk + 2, false, by omega, by have := HKK.out; omega, rfl, by go_num, Lib.hid (by rw [HST.out]; rw [show nmEq pa xt = true from hq1, show nmEq pb xk = true from hq2]; simp), Lib.hid (HB7.out.trans (hy.mono HB7.out.size))⟩
                  case measure => have := HKK.out; simp [intOf]; omega
          · have hk1 : ¬ (kk : Int) + 1 < (n7 : Int) := by have := HLN.out.1; omega
            have hk2 : ¬ kk + 1 < n7 := by have := HLN.out.1; omega
            have hji : j = i := by omega
            have HF2 := Lib.hid (show f = !inR P xt xk by rw [HF.out, List.take_of_length_le (by rw [HLN.out.2.1]; omega)])
            have HV8 := Lib.hid (HV7.out.on HB7.out)
            rw [← HF2.out] at HRV
            have d1 : wr.cell? ⟨gb, 1, none⟩ = some (.string xt) := HV8.out.head.cell 1
            have d2 : wr.cell? ⟨gb, 2, none⟩ = some (.string xk) := HV8.out.head.cell 2
            have HOS8 := Lib.hid (HOS6.out.on HB7.out)
            have HK8 := Lib.hid (show Ke [mb] wb wr from HK6.out.trans (Ke.of HB7.out).nil)
            have HM8 := Lib.hid HV8.out.va.mp
            have HN7 := Lib.hid (show (flatP P).length = n7 by rw [flatP_len, HLN.out.2.1, HLN.out.1])
            have hn7 : n7 ≤ 200 := by have h1 := HLN.out.1; have h2 := HI100.out; omega
            have HZ4 := Lib.hid HK8.out.size
            cases is <;> cases f
            all_goals
              go_wp2_with (first
                | (go_at_call 14; (with_reducible refine (HRV.out _ _ HV8.out).mono ?_); rintro e u9 ⟨⟨rfl, hv⟩, hk⟩; have HV9 := Lib.hid hv; have HK9 := Lib.hid (HK8.out.trans hk); have HOS9 := Lib.hid (HOS8.out.keM hk HM8.out); clear hv hk d1 d2; have d1 : u9.cell? ⟨gb, 1, none⟩ = some (.string xt) := HV9.out.head.cell 1; have d2 : u9.cell? ⟨gb, 2, none⟩ = some (.string xk) := HV9.out.head.cell 2)
                | (at_builtin; refine wp_rows0 roS rfl (.tmp 92) (.tmp 97) rfl n7 rfl HN7.out (Ow.on HOS9.out ((Below.refl u9.heap.size u9).alloc (Nat.le_refl _) _)) [xt, xk] (some ⟨u9.heap.size, 0, none⟩) 2 2 rfl rfl (fun h => by cases h) (two_row _ _ _ _) (by omega) (by have := HK9.out.size; rw [World.size_alloc]; omega) (n7 + 2) rfl ?_; intro A9 c9 w9 ho9 hg9 hb9; have hke := (HK9.out.trans (Ke.of ((Below.refl u9.heap.size u9).alloc (Nat.le_refl _) (.cells #[.string xt, .string xk] 9))).nil); have HR9 := Lib.hid (show OS w9 wb.heap.size A9 c9 (P ++ [(xt, xk)]) ∧ Ke [mb] wb w9 ∧ Mv w9 mb gg from ⟨by have := ho9; rw [← flatP_snoc] at this; exact this, Ke.low hke hb9 (Nat.le_refl _), Mv.low (HV9.out.va.mp.ke (Ke.of ((Below.refl u9.heap.size u9).alloc (Nat.le_refl _) _)) (by simp)) hb9 HLT.out⟩); clear ho9 hg9 hb9 hke))
            all_goals go_roundw
            all_goals (first | (exact ⟨i + 1, gg, P ++ [(xt, xk)], A9, n7 + 2, c9, by omega, rfl, by go_num, Lib.hid ⟨by have := HLN.out.1; omega, by rw [List.length_append, HLN.out.2.1]; rfl, HRL.out⟩, Lib.hid HR9.out.1, HRM, Lib.hid HR9.out.2⟩) | (simp [intOf]; omega))
      · have hi2 : ¬ (i : Int) < (nl : Int) := by omega
        go_wp2
        go_ret
        exact ⟨rfl, HV.out.l⟩
end Go.Proofs.YtijboiepockmjaaDoor
