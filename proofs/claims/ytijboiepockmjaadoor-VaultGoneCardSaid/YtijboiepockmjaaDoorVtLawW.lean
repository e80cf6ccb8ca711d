/- VaultWants: the walk. (Written by gen_vtlaws.py.) -/
import Derived.Test.YtijboiepockmjaaDoorVtLawT
namespace Go.Proofs.YtijboiepockmjaaDoor
set_option linter.unusedVariables false
set_option maxRecDepth 100000
set_option linter.unusedSimpArgs false
open Go.RowKit

theorem rv_len {o : Option Tk} {g : Rev} {a b : ByteArray} {n : Nat} (h : g.length + 1 ≤ n) : (rvG o g a b).length ≤ n := by
  unfold rvG
  split
  · omega
  · rw [List.length_cons]; exact h
set_option maxRecDepth 100000 in
set_option maxHeartbeats 16000000 in
theorem walk_VaultWants (x : Cv) (B : Option Addr) (lo : List Vo) (d : Nat) (s t nn : ByteArray) (w : World) (h : InCf w x) (ho : InOps w B lo d) (hs : s.size ≤ 140737488355328) (ht : t.size ≤ 140737488355328) (hnn : nn.size ≤ 140737488355328) (hG : Gl w) :
    Calls Tryd.prog 7 #[.agg (ccs x), .slice B lo.length d, .string s, .string t, .string nn] w fun e w' => e = .returned (.bool true) ∧ Below w.heap.size w w' := by
  have HGR := Lib.hid (fun u (hu : Below w.heap.size w u) => great_ok x u (h.on hu))
  have HN0 := Lib.hid (fun (hc : cfgB x.cg = false) => vnew_no h.rc hc)
  have HN1 := Lib.hid (fun (hc : cfgB x.cg = true) => vnew_yes h.rc hc)
  have HRT := Lib.hid h.rc.r
  have HMX := Lib.hid h.rc.f.max
  have HCP := Lib.hid h.rc.f.cap
  have HSE := Lib.hid (fun (hc : cfgB x.cg = true) (a b : ByteArray) k (hk : tkN x.cg.tens a b = some k) => (tkN_till hc hk).2.2.2)
  have HTN := Lib.hid (show ∀ a b, tkT x.ts a b = tkN x.cg.tens a b from fun a b => tkT_is _ _ _)
  have HGO := Lib.hid (fun u (hu : Below w.heap.size w u) => vgreat_ok B lo d u (ho.on hu))
  have HOP := Lib.hid ho
  obtain ⟨C, hC⟩ : ∃ C, cfgB x.cg = C := ⟨_, rfl⟩
  simp only [hC] at HN0 HN1 HSE
  obtain ⟨tn, htn⟩ : ∃ tn, x.cg.tens = tn := ⟨_, rfl⟩
  rw [htn] at HN1 HSE HTN
  obtain ⟨a0, a1, a2, a3, ts, A, c⟩ := x
  obtain ⟨n, hn⟩ : ∃ n, ts.length = n := ⟨_, rfl⟩
  have HN := Lib.hid hn
  dsimp only at HRT HMX HCP HTN
  simp only [ccs, hn] at HGR HN0 HN1 ⊢
  have HX := Lib.hid (show Bx w w.heap.size 24 #[.int .i64 a0, .int .i64 a1, .int .i64 a2, .int .i64 a3, .slice A n c] (w.alloc (.cells #[.int .i64 a0, .int .i64 a1, .int .i64 a2, .int .i64 a3, .slice A n c] 24)) from Bx.new w _ _)
  have HG := Lib.hid hG
  clear h hn hC htn hG
  obtain ⟨nl, hnl⟩ : ∃ k, lo.length = k := ⟨_, rfl⟩
  have HNL := Lib.hid hnl
  have hnl47 : nl ≤ 140737488355328 := by rw [← hnl]; exact ho.n
  rw [hnl] at HGO ⊢
  clear hnl ho
  obtain ⟨m, hm⟩ : ∃ m : Nat, (s.size : Int) + (t.size : Int) + (nn.size : Int) = (m : Int) := ⟨s.size + t.size + nn.size, by omega⟩
  have hm47 : m ≤ 562949953421312 := by omega
  have HSZ := Lib.hid (And.intro hs (And.intro ht (And.intro hnn hm)))
  go_enter Tryd.func7, Tryd.ntmps7
  go_upto_region 2 with (go_at_call 9; refine (vhead_ok _ (HG.out.below HX.out.l HG.out.size)).mono ?_; rintro e u1 ⟨rfl, hb⟩; have HX1 := Lib.hid (HX.out.on hb); clear hb)
  obtain ⟨g0, hg0⟩ : ∃ g, w.heap.size = g := ⟨_, rfl⟩
  have HG0 := Lib.hid hg0
  rw [hg0] at HX1 ⊢
  clear hg0
  have e0 : u1.cell? ⟨g0, 0, none⟩ = some (.int .i64 a0) := HX1.out.b.cell 0
  have e1 : u1.cell? ⟨g0, 1, none⟩ = some (.int .i64 a1) := HX1.out.b.cell 1
  have e2 : u1.cell? ⟨g0, 2, none⟩ = some (.int .i64 a2) := HX1.out.b.cell 2
  have e3 : u1.cell? ⟨g0, 3, none⟩ = some (.int .i64 a3) := HX1.out.b.cell 3
  have e4 : u1.cell? ⟨g0, 4, none⟩ = some (.slice A n c) := HX1.out.b.cell 4
  cases C with
  | false =>
    go_wp2_with (go_at_call 12; (with_reducible refine (HN0.out (by first | rfl | trivial) _ HX1.out.l).mono ?_); rintro e u2 ⟨rfl, hb⟩; have HX2 := Lib.hid (HX1.out.on hb); clear hb)
    go_ret
    exact ⟨rfl, HX2.out.l⟩
  | true =>
    go_upto_region 3 with (go_at_call 12; (with_reducible refine (HN1.out (by first | rfl | trivial) _ HX1.out.l [(g0, 24, #[.int .i64 a0, .int .i64 a1, .int .i64 a2, .int .i64 a3, .slice A n c])] (fun b hb => by obtain rfl := List.mem_singleton.1 hb; exact HX1.out.b)).mono ?_); rintro e u2 ⟨v, mb, rfl, hv, _, _, _⟩; have HV2 := Lib.hid hv; clear hv)
    clear e0 e1 e2 e3 e4
    have e0 : u2.cell? ⟨g0, 0, none⟩ = some (.int .i64 a0) := HV2.out.head.cell 0
    have e1 : u2.cell? ⟨g0, 1, none⟩ = some (.int .i64 a1) := HV2.out.head.cell 1
    have e2 : u2.cell? ⟨g0, 2, none⟩ = some (.int .i64 a2) := HV2.out.head.cell 2
    have e3 : u2.cell? ⟨g0, 3, none⟩ = some (.int .i64 a3) := HV2.out.head.cell 3
    have e4 : u2.cell? ⟨g0, 4, none⟩ = some (.slice A n c) := HV2.out.head.cell 4
    by_cases hm1 : m ≤ 2000
    · have hm2 : ¬ (2000 : Int) < (m : Int) := by omega
      have hm3 : ¬ (m : Int) > 2000 := by omega
      obtain ⟨⟨⟨yn, ya, yb, ynl, ykl⟩, yAn, ycn, yAk, yck⟩, hy⟩ : ∃ y, (fT s ts).getD zeroTv = y := ⟨_, rfl⟩
      obtain ⟨is1, his1⟩ : ∃ is1, (fT s ts).isSome = is1 := ⟨_, rfl⟩
      have HRY := Lib.hid (show RT1 w ⟨⟨yn, ya, yb, ynl, ykl⟩, yAn, ycn, yAk, yck⟩ by
        rw [← hy]
        cases hq : fT s ts with
        | none => exact RT1.zero w
        | some y => exact HRT.out.each y (fT_mem hq).1)
      have HKF := Lib.hid (show fK t ((fT s ts).getD zeroTv).t.toks = tkN tn s t from HTN.out s t)
      rw [hy] at HKF
      dsimp only at HKF
      have HFI := Lib.hid (fun u (hu : Below w.heap.size w u) => rfind_ok (.int .i64 a0) (.int .i64 a1) (.int .i64 a2) (.int .i64 a3) A ts n c s u (HRT.out.on hu) HN.out (by have h1 := HMX.out; have h2 := HCP.out; rw [HN.out] at h2; omega))
      rw [hy, his1] at HFI
      obtain ⟨K, hK⟩ : ∃ K, tkN tn s t = K := ⟨_, rfl⟩
      have HSK := Lib.hid (fun k (hk : K = some k) => HSE.out (by first | rfl | trivial) s t k (hK.trans hk))
      rw [hK] at HKF
      have HTO := Lib.hid (fun u (hu : Below w.heap.size w u) => rtoken_ok (.string yn) (.int .i64 ya) (.int .i64 yb) (.slice yAn ynl.length ycn) yAk ykl ykl.length yck t u (HRY.out.k.on hu) rfl (by have h1 := HRY.out.fk.max; have h2 := HRY.out.fk.cap; dsimp only at h1 h2; omega))
      rw [HKF.out] at HTO
      have HWN := Lib.hid (fun (L : List (Nat × TypeId × Array Value)) (g : Rev) u (hu : Lv w v mb tn g L u) => lv_want hu HG.out s t nn HSZ.out.2.2.1)
      rw [hK] at HWN
      obtain ⟨WS, hWS⟩ : ∃ WS : ByteArray, (⟨(wnB K s t nn).toArray⟩ : ByteArray) = WS := ⟨_, rfl⟩
      simp only [hWS] at HWN
      obtain ⟨is, his⟩ : ∃ is, K.isSome = is := ⟨_, rfl⟩
      have HKS := Lib.hid (show (K.getD zeroTk).sec.size ≤ 32 by
        cases hk : K with
        | none => decide
        | some k => exact HSK.out k hk)
      have HWI := Lib.hid (show is = true → (⟨(proofB (K.getD zeroTk).sec.data.toList [s, t, nn]).toArray⟩ : ByteArray) = WS from fun hi => by
        rw [← hWS]
        cases hk : K with
        | none => rw [← his, hk] at hi; cases hi
        | some k => rfl)
      have HWO := Lib.hid (show is = false → WS = ⟨#[]⟩ from fun hi => by
        rw [← hWS]
        cases hk : K with
        | none => rfl
        | some k => rw [← his, hk] at hi; cases hi)
      obtain ⟨⟨kn, ks, ku⟩, hkd⟩ : ∃ k, K.getD zeroTk = k := ⟨_, rfl⟩
      rw [his] at HTO
      rw [hkd] at HTO HKS HWI
      dsimp only at HKS HWI
      simp only [tcs] at HFI
      simp only [kcs] at HTO
      have hws : (WS.toList == WS.toList) = true := beq_self_eq_true _
      clear hy his1 hK his hkd hWS HKF HSK HN0 HN1 HSE HTN
      go_upto_region 5 with (first
        | (go_at_call 10; (with_reducible refine (HGR.out _ HV2.out.l).mono ?_); rintro e u3 ⟨g, rfl, _, hb⟩; have HV3 := Lib.hid (HV2.out.on hb); clear hb; cases g)
        | (go_at_call 11; (with_reducible refine (HGO.out _ HV3.out.l).mono ?_); rintro e u4 ⟨g2, rfl, hob, hb⟩; have HV4 := Lib.hid (HV3.out.on hb); have HOB := Lib.hid hob; clear hb hob; cases g2))
      any_goals (go_ret; first | exact ⟨rfl, HV3.out.l⟩ | exact ⟨rfl, HV4.out.l⟩)
      have HOB2 := Lib.hid (show OpsB lo from HOB.out (by first | rfl | trivial))
      clear HOB e0 e1 e2 e3 e4
      go_wp2_with (go_at_call 18; (with_reducible refine (HWN.out _ [] _ HV4.out).mono ?_); rintro e u5 ⟨rfl, hv⟩; have HV5 := Lib.hid hv; clear hv)
      go_loopw [14] (fun v14 wr => ∃ (i : Nat) (g : Rev), i ≤ nl ∧ v14 = .int .i64 (i : Int) ∧ Hid (g.length ≤ i) ∧ Hid (Lv w v mb tn g [(g0, 24, #[.int .i64 a0, .int .i64 a1, .int .i64 a2, .int .i64 a3, .slice A n c])] wr)) (fun v14 _ => nl - (intOf v14).toNat)
      case atStart => exact ⟨0, [], by omega, rfl, Lib.hid (Nat.le_refl _), HV5⟩
      case round =>
        obtain ⟨i, g, hi, rfl, HGL, HV⟩ := hrel
        by_cases hi1 : i < nl
        · have hi2 : (i : Int) < (nl : Int) := by omega
          obtain ⟨b, o, x, rfl, hx, hsm, hc⟩ := HOP.out.at6 i (by rw [HNL.out]; exact hi1)
          have HC := Lib.hid hc
          obtain ⟨c0, c1, c2, c3, c4, c5⟩ := hc wr HV.out.l
          obtain ⟨xw, xt, xk, xn, xp, xo⟩ := x
          dsimp only at c0 c1 c2 c3 c4 c5 HC
          have HG1 := Lib.hid (show g.length ≤ 1099511627776 by have h1 := HGL.out; have h2 := HOB2.out.n; rw [HNL.out] at h2; omega)
          clear hc hx hsm
          by_cases hw0 : xw = 0
          · subst hw0
            obtain ⟨wo, hwo⟩ : ∃ wo, wr = wo := ⟨_, rfl⟩
            subst wr
            go_upto_region 10 with fail
            try simp only [List.cons_append, List.nil_append]
            refine wp_region_held_drew (S := fun wz => Below w.heap.size w wz) (by kernel_rfl) (HV.out.l.drew) (fun hHeld => ?_)
            refine take_at (some 61) (i := 0) (v := ?_) rfl rfl (by kernel_rfl) (by kernel_rfl) (by kernel_rfl) (fun _ _ _ h => h) (Or.inl ⟨by kernel_rfl, ?_⟩) hHeld ?_
            rotate_left
            · intro wz hSw; obtain ⟨k0, k1, k2, k3, k4, k5⟩ := HC.out wz hSw; go_simp; try (with_reducible rfl)
            try simp only [Act.put, List.setIfInBounds_toArray, List.set_cons_zero, List.set_cons_succ, List.getElem_toArray, List.getElem_cons_succ, List.getElem_cons_zero]
            refine take_at (some 62) (i := 1) (v := ?_) rfl rfl (by kernel_rfl) (by kernel_rfl) (by kernel_rfl) (fun _ _ _ h => h) (Or.inl ⟨by kernel_rfl, ?_⟩) hHeld ?_
            rotate_left
            · intro wz hSw; obtain ⟨k0, k1, k2, k3, k4, k5⟩ := HC.out wz hSw; go_simp; try (with_reducible rfl)
            try simp only [Act.put, List.setIfInBounds_toArray, List.set_cons_zero, List.set_cons_succ, List.getElem_toArray, List.getElem_cons_succ, List.getElem_cons_zero]
            refine take_at (some 63) (i := 2) (v := ?_) rfl rfl (by kernel_rfl) (by kernel_rfl) (by kernel_rfl) (fun _ _ _ h => h) (Or.inl ⟨by kernel_rfl, ?_⟩) hHeld ?_
            rotate_left
            · intro wz hSw; obtain ⟨k0, k1, k2, k3, k4, k5⟩ := HC.out wz hSw; go_simp; try (with_reducible rfl)
            try simp only [Act.put, List.setIfInBounds_toArray, List.set_cons_zero, List.set_cons_succ, List.getElem_toArray, List.getElem_cons_succ, List.getElem_cons_zero]
            refine take_at (some 64) (i := 3) (v := ?_) rfl rfl (by kernel_rfl) (by kernel_rfl) (by kernel_rfl) (fun _ _ _ h => h) (Or.inl ⟨by kernel_rfl, ?_⟩) hHeld ?_
            rotate_left
            · intro wz hSw; obtain ⟨k0, k1, k2, k3, k4, k5⟩ := HC.out wz hSw; go_simp; try (with_reducible rfl)
            try simp only [Act.put, List.setIfInBounds_toArray, List.set_cons_zero, List.set_cons_succ, List.getElem_toArray, List.getElem_cons_succ, List.getElem_cons_zero]
            refine take_at (some 65) (i := 4) (v := ?_) rfl rfl (by kernel_rfl) (by kernel_rfl) (by kernel_rfl) (fun _ _ _ h => h) (Or.inl ⟨by kernel_rfl, ?_⟩) hHeld ?_
            rotate_left
            · intro wz hSw; obtain ⟨k0, k1, k2, k3, k4, k5⟩ := HC.out wz hSw; go_simp; try (with_reducible rfl)
            try simp only [Act.put, List.setIfInBounds_toArray, List.set_cons_zero, List.set_cons_succ, List.getElem_toArray, List.getElem_cons_succ, List.getElem_cons_zero]
            refine take_at (some 66) (i := 5) (v := ?_) rfl rfl (by kernel_rfl) (by kernel_rfl) (by kernel_rfl) (fun _ _ _ h => h) (Or.inl ⟨by kernel_rfl, ?_⟩) hHeld ?_
            rotate_left
            · intro wz hSw; obtain ⟨k0, k1, k2, k3, k4, k5⟩ := HC.out wz hSw; go_simp; try (with_reducible rfl)
            try simp only [Act.put, List.setIfInBounds_toArray, List.set_cons_zero, List.set_cons_succ, List.getElem_toArray, List.getElem_cons_succ, List.getElem_cons_zero]
            refine take_at (some 67) (i := 6) (v := ?_) rfl rfl (by kernel_rfl) (by kernel_rfl) (by kernel_rfl) (fun _ _ _ h => h) (Or.inl ⟨by kernel_rfl, ?_⟩) hHeld ?_
            rotate_left
            · intro wz hSw; obtain ⟨k0, k1, k2, k3, k4, k5⟩ := HC.out wz hSw; go_simp; try (with_reducible rfl)
            try simp only [Act.put, List.setIfInBounds_toArray, List.set_cons_zero, List.set_cons_succ, List.getElem_toArray, List.getElem_cons_succ, List.getElem_cons_zero]
            refine take_at (some 68) (i := 7) (v := ?_) rfl rfl (by kernel_rfl) (by kernel_rfl) (by kernel_rfl) (fun _ _ _ h => h) (Or.inl ⟨by kernel_rfl, ?_⟩) hHeld ?_
            rotate_left
            · intro wz hSw; obtain ⟨k0, k1, k2, k3, k4, k5⟩ := HC.out wz hSw; go_simp; try (with_reducible rfl)
            try simp only [Act.put, List.setIfInBounds_toArray, List.set_cons_zero, List.set_cons_succ, List.getElem_toArray, List.getElem_cons_succ, List.getElem_cons_zero]
            refine take_at (some 69) (i := 8) (v := ?_) rfl rfl (by kernel_rfl) (by kernel_rfl) (by kernel_rfl) (fun _ _ _ h => h) (Or.inl ⟨by kernel_rfl, ?_⟩) hHeld ?_
            rotate_left
            · intro wz hSw; obtain ⟨k0, k1, k2, k3, k4, k5⟩ := HC.out wz hSw; go_simp; try (with_reducible rfl)
            try simp only [Act.put, List.setIfInBounds_toArray, List.set_cons_zero, List.set_cons_succ, List.getElem_toArray, List.getElem_cons_succ, List.getElem_cons_zero]
            refine take_at (some 70) (i := 9) (v := ?_) rfl rfl (by kernel_rfl) (by kernel_rfl) (by kernel_rfl) (fun _ _ _ h => h) (Or.inl ⟨by kernel_rfl, ?_⟩) hHeld ?_
            rotate_left
            · intro wz hSw; obtain ⟨k0, k1, k2, k3, k4, k5⟩ := HC.out wz hSw; go_simp; try (with_reducible rfl)
            try simp only [Act.put, List.setIfInBounds_toArray, List.set_cons_zero, List.set_cons_succ, List.getElem_toArray, List.getElem_cons_succ, List.getElem_cons_zero]
            refine take_at (some 71) (i := 10) (v := ?_) rfl rfl (by kernel_rfl) (by kernel_rfl) (by kernel_rfl) (fun _ _ _ h => h) (Or.inl ⟨by kernel_rfl, ?_⟩) hHeld ?_
            rotate_left
            · intro wz hSw; obtain ⟨k0, k1, k2, k3, k4, k5⟩ := HC.out wz hSw; go_simp; try (with_reducible rfl)
            try simp only [Act.put, List.setIfInBounds_toArray, List.set_cons_zero, List.set_cons_succ, List.getElem_toArray, List.getElem_cons_succ, List.getElem_cons_zero]
            refine wpAnyH_ready (rs := [11]) (by kernel_rfl) (by simp) (AllReadyH.cons rfl (fun K hK => ?_) AllReadyH.nil)
            rw [if_pos (by kernel_rfl)]
            go_simp
            refine (lv_rev (HV.out.on (Below.refl wo.heap.size wo).drew) HG1.out xt xk).mono ?_
            rintro e u6 ⟨⟨rfl, hv6⟩, hk6⟩
            try dsimp only
            refine hK.out _ _ (hv6.l) (fun hHeld => ?_)
            try simp only [Act.put, List.setIfInBounds_toArray, List.set_cons_zero, List.set_cons_succ, List.getElem_toArray, List.getElem_cons_succ, List.getElem_cons_zero]
            refine wpAnyH_done (by kernel_rfl) ?_ _
            refine gen_qH (fun y => Lv w v mb tn (rvG (tkN tn xt xk) g xt xk) [(g0, 24, #[.int .i64 a0, .int .i64 a1, .int .i64 a2, .int .i64 a3, .slice A n c])] y) hv6 (fun y hy => ?_)
            have HV6 := Lib.hid hy
            clear hy hHeld
            go_wp2_with (go_at_call 18; (with_reducible refine (HWN.out _ _ _ HV6.out).mono ?_); rintro e u7 ⟨rfl, hv⟩; have HV7 := Lib.hid hv; clear hv)
            go_roundw
            case rel =>
              refine ⟨i + 1, rvG (tkN tn xt xk) g xt xk, by omega, by go_num, Lib.hid (rv_len (by have := HGL.out; omega)), HV7⟩
            case measure => simp [intOf]; omega
          · go_wp2_with (go_at_call 18; (with_reducible refine (HWN.out _ _ _ HV.out).mono ?_); rintro e u7 ⟨rfl, hv⟩; have HV7 := Lib.hid hv; clear hv)
            go_roundw
            case rel => exact ⟨i + 1, g, by omega, by go_num, Lib.hid (by have := HGL.out; omega), HV7⟩
            case measure => simp [intOf]; omega
        · have hi2 : ¬ (i : Int) < (nl : Int) := by omega
          have e0 : wr.cell? ⟨g0, 0, none⟩ = some (.int .i64 a0) := HV.out.head.cell 0
          have e1 : wr.cell? ⟨g0, 1, none⟩ = some (.int .i64 a1) := HV.out.head.cell 1
          have e2 : wr.cell? ⟨g0, 2, none⟩ = some (.int .i64 a2) := HV.out.head.cell 2
          have e3 : wr.cell? ⟨g0, 3, none⟩ = some (.int .i64 a3) := HV.out.head.cell 3
          have e4 : wr.cell? ⟨g0, 4, none⟩ = some (.slice A n c) := HV.out.head.cell 4
          go_upto_region 15 with (first
            | (go_at_call 22; (with_reducible refine (HFI.out _ HV.out.l).mono ?_); rintro e u8 ⟨rfl, hb⟩; have HV8 := Lib.hid ((HV.out.on hb).new 44 #[.string yn, .int .i64 ya, .int .i64 yb, .slice yAn ynl.length ycn, .slice yAk ykl.length yck]); clear hb)
            | (go_at_call 23; (with_reducible refine (HTO.out _ HV8.out.l).mono ?_); rintro e u9 ⟨rfl, hb⟩; have HV9 := Lib.hid ((HV8.out.on hb).new 48 #[.string kn, .string ks, .int .i64 ku]); clear hb))
          clear e0 e1 e2 e3 e4
          cases is with
          | false =>
            have hq1 : (WS.toList == []) = true := by rw [HWO.out rfl, ByteArray.toList_eq]; rfl
            go_wp2
            go_ret
            exact ⟨rfl, HV9.out.l⟩
          | true =>
            have HW := Lib.hid (HWI.out rfl)
            obtain ⟨v6, hv6⟩ : ∃ v6, u9.alloc (.cells #[.string kn, .string ks, .int .i64 ku] 48) = v6 := ⟨_, rfl⟩
            rw [hv6] at HV9 ⊢
            obtain ⟨g5, hg5⟩ : ∃ g, u9.heap.size = g := ⟨_, rfl⟩
            rw [hg5] at HV9 ⊢
            clear hv6 hg5 HV8
            have HV6 := Lib.hid (HV9.out.less (L' := [(g5, 48, #[.string kn, .string ks, .int .i64 ku])]) (fun b hb => by obtain rfl := List.mem_singleton.1 hb; exact List.mem_cons_self ..))
            obtain ⟨cap, ob, hcb, hcap1, hcap2, hRB⟩ := conv_back ks (by have := HKS.out; omega) v6
            have hbo : Below v6.heap.size v6 (v6.drew.alloc ob) := (Below.refl _ _).drew.alloc (Nat.le_refl _) _
            have hz0 : (v6.drew.alloc ob).heap.size = v6.heap.size + 1 := World.size_alloc ..
            obtain ⟨v7, hv7⟩ : ∃ v7, v6.drew.alloc ob = v7 := ⟨_, rfl⟩
            rw [hv7] at hcb hRB hbo hz0
            clear hv7
            have e1 : v6.cell? ⟨g5, 1, none⟩ = some (.string ks) := HV6.out.head.cell 1
            have HPR := Lib.hid (show Calls Tryd.prog 24 #[.slice (some ⟨v6.heap.size, 0, none⟩) ks.size cap, .slice (some ⟨v6.heap.size + 1, 0, none⟩) 3 3] (v7.alloc (.cells #[.string s, .string t, .string nn] 9)) fun e w' => e = .returned (.string WS) ∧ Lv w v mb tn g [(g5, 48, #[.string kn, .string ks, .int .i64 ku])] w' from by
              have hb2 := (Below.refl v7.heap.size v7).alloc (Nat.le_refl _) (.cells #[.string s, .string t, .string nn] 9)
              have hz := hz0
              have hbk : Bk (v7.alloc (.cells #[.string s, .string t, .string nn] 9)) (v6.heap.size + 1) 9 #[.string s, .string t, .string nn] := by
                have := Bk.new v7 9 #[.string s, .string t, .string nn]
                rwa [hz] at this
              have hbb : Below v6.heap.size v6 (v7.alloc (.cells #[.string s, .string t, .string nn] 9)) := hbo.trans (hb2.mono hbo.size)
              refine (rproof_ok (some ⟨v6.heap.size, 0, none⟩) ks.size cap ks.data.toList (some ⟨v6.heap.size + 1, 0, none⟩) 3 3 [s, t, nn] _ rfl hcap1 hcap2 (by have := HKS.out; omega) ((hRB.below hb2 (Nat.le_refl _)).more hb2.size) (fun h => by cases h) rfl (by omega) ?_ ?_ (texts3 _ _ _)).mono fun e w' hh => ⟨by rw [hh.1, HW.out], HV6.out.on (hbb.trans (hh.2.mono hbb.size))⟩
              · refine .inr ⟨v6.heap.size + 1, 0, rfl, hbk.lt, fun i hi => ?_⟩
                rw [hbk.cell]
                match i, hi with
                | 0, _ => rfl
                | 1, _ => rfl
                | 2, _ => rfl
              · intro y hy
                simp only [List.mem_cons, List.not_mem_nil, or_false] at hy
                have h1 := HSZ.out
                rcases hy with rfl | rfl | rfl
                · exact h1.1
                · exact h1.2.1
                · exact h1.2.2.1)
            clear hRB hbo
            go_wp2_with (go_at_call 24; (with_reducible refine HPR.out.mono ?_); rintro e u10 ⟨rfl, hv⟩; have HV10 := Lib.hid hv; clear hv)
            go_ret
            exact ⟨rfl, HV10.out.l⟩
    · have hm2 : (2000 : Int) < (m : Int) := by omega
      have hm3 : (m : Int) > 2000 := by omega
      go_wp2_with (first
        | (go_at_call 10; (with_reducible refine (HGR.out _ HV2.out.l).mono ?_); rintro e u3 ⟨g, rfl, _, hb⟩; have HV3 := Lib.hid (HV2.out.on hb); clear hb; cases g)
        | (go_at_call 11; (with_reducible refine (HGO.out _ HV3.out.l).mono ?_); rintro e u4 ⟨g2, rfl, hob, hb⟩; have HV4 := Lib.hid (HV3.out.on hb); have HOB := Lib.hid hob; clear hb hob; cases g2))
      all_goals go_ret
      all_goals (first | exact ⟨rfl, HV4.out.l⟩ | exact ⟨rfl, HV3.out.l⟩)
end Go.Proofs.YtijboiepockmjaaDoor
