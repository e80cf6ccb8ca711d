/- ShakeJust: the walk. (Written by gen_skjust.py.) -/
import Derived.Test.YtekobdmlgbffnaaDoorSkLawS
namespace Go.Proofs.YtekobdmlgbffnaaDoor
set_option linter.unusedVariables false
set_option maxRecDepth 100000
set_option linter.unusedSimpArgs false
open Go.RowKit

def runS (K : Ckf) (l : List So) : Sk := l.foldl (fun s x => hsS K s x.m x.now x.nn) .new
theorem runS_snoc (K : Ckf) (l : List So) (x : So) : runS K (l ++ [x]) = hsS K (runS K l) x.m x.now x.nn := by unfold runS; rw [List.foldl_append]; rfl
theorem fold_over (K : Ckf) : ∀ (l : List So) (s : Sk), ovS s = true → l.foldl (fun s x => hsS K s x.m x.now x.nn) s = s
  | [], _, _ => rfl
  | x :: l, s, h => by
    have e : hsS K s x.m x.now x.nn = s := by cases s <;> first | rfl | cases h
    rw [List.foldl_cons, e]
    exact fold_over K l s h
theorem run_short {K : Ckf} {l : List So} (h : l.length < 2) : knS (runS K l) = false := by
  match l, h with
  | [], _ => rfl
  | [x], _ =>
    show knS (if x.m.k = 1 then .ask x.m.a x.m.b (cutN x.nn) else .no) = false
    split <;> rfl
/-- Who is known behind all messages: by the first two alone. -/
theorem run_two (K : Ckf) (x y : So) (r : List So) : runS K (x :: y :: r) = (if x.m.k = 1 then (if y.m.k = 3 then (if K x.m.a x.m.b (cutN x.nn) y.m.a y.now = 0 then .known x.m.a else .no) else .no) else .no) := by
  show r.foldl _ (hsS K (hsS K .new x.m x.now x.nn) y.m y.now y.nn) = _
  have e1 : hsS K .new x.m x.now x.nn = if x.m.k = 1 then .ask x.m.a x.m.b (cutN x.nn) else .no := rfl
  rw [e1]
  by_cases h1 : x.m.k = 1
  · rw [if_pos h1, if_pos h1]
    have e2 : hsS K (.ask x.m.a x.m.b (cutN x.nn)) y.m y.now y.nn = if y.m.k = 3 then (if K x.m.a x.m.b (cutN x.nn) y.m.a y.now = 0 then .known x.m.a else .no) else .no := rfl
    rw [e2]
    refine fold_over K r _ ?_
    split
    · split <;> rfl
    · rfl
  · rw [if_neg h1, if_neg h1]
    exact fold_over K r _ rfl
/-- Is one known? With letters. -/
theorem just_out (c : List Tn) (x y : So) (r : List So) (W : ByteArray) (hW : (⟨(wnB (tkN c x.m.a x.m.b) x.m.a x.m.b (cutN x.nn)).toArray⟩ : ByteArray) = W) :
    ∃ (kn : Bool) (s : Sk), runS (ckF c []) (x :: y :: r) = s ∧ knS s = kn ∧ (kn = true → whS s = x.m.a) ∧ (kn = false → whS s = eS) ∧
      kn = ((x.m.k == 1) && (y.m.k == 3) && gdB (tkN c x.m.a x.m.b) (inR [] x.m.a x.m.b) y.now && !y.m.a.toList.isEmpty && (y.m.a.toList == W.toList)) := by
  have hw : W.toList = wnB (tkN c x.m.a x.m.b) x.m.a x.m.b (cutN x.nn) := by rw [ByteArray.toList_eq, ← hW]
  rw [run_two]
  by_cases h1 : x.m.k = 1
  · have b1 : (x.m.k == 1) = true := beq_iff_eq.2 h1
    rw [if_pos h1, b1]
    by_cases h3 : y.m.k = 3
    · have b3 : (y.m.k == 3) = true := beq_iff_eq.2 h3
      rw [if_pos h3, b3]
      by_cases h0 : ckF c [] x.m.a x.m.b (cutN x.nn) y.m.a y.now = 0
      · rw [if_pos h0]
        obtain ⟨g1, g2, g3⟩ := ck_zero.1 h0
        refine ⟨true, _, rfl, rfl, (fun _ => rfl), (fun h => by cases h), ?_⟩
        have e : y.m.a.toList = W.toList := by rw [ByteArray.toList_eq, hw]; exact g3.symm
        rw [g1, e, beq_self_eq_true, hw]
        cases hq : wnB (tkN c x.m.a x.m.b) x.m.a x.m.b (cutN x.nn) with
        | nil => exact absurd hq g2
        | cons a b => rfl
      · rw [if_neg h0]
        refine ⟨false, _, rfl, rfl, (fun h => by cases h), (fun _ => rfl), ?_⟩
        symm
        rw [Bool.eq_false_iff]
        intro h
        simp only [Bool.true_and, Bool.and_eq_true, beq_iff_eq] at h
        refine h0 (ck_zero.2 ⟨h.1.1, ?_, ?_⟩)
        · intro e
          rw [h.2, hw, e] at h
          exact absurd h.1.2 (by simp)
        · rw [← hw, ← h.2, ByteArray.toList_eq]
    · have b3 : (y.m.k == 3) = false := beq_eq_false_iff_ne.2 h3
      rw [if_neg h3, b3]
      exact ⟨false, _, rfl, rfl, (fun h => by cases h), (fun _ => rfl), rfl⟩
  · have b1 : (x.m.k == 1) = false := beq_eq_false_iff_ne.2 h1
    rw [if_neg h1, b1]
    exact ⟨false, _, rfl, rfl, (fun h => by cases h), (fun _ => rfl), rfl⟩

set_option maxRecDepth 100000 in
set_option maxHeartbeats 16000000 in
theorem walk_ShakeJust (x : Cv) (B : Option Addr) (lo : List So) (d : Nat) (w : World) (h : InCf w x) (ho : InSk w B lo d) (hG : Gl w) :
    Calls Tryd.prog 3 #[.agg (ccs x), .slice B lo.length d] w fun e w' => e = .returned (.bool true) ∧ Below w.heap.size w w' := by
  have HGR := Lib.hid (fun u (hu : Below w.heap.size w u) => great_ok x u (h.on hu))
  have HN0 := Lib.hid (fun (hc : cfgB x.cg = false) => vnew_no h.rc hc)
  have HN1 := Lib.hid (fun (hc : cfgB x.cg = true) => vnew_yes h.rc hc)
  have HCF := Lib.hid (fun (hc : cfgB x.cg = true) => show ∃ cg : Cg, cfgB cg = true ∧ x.cg.tens = cg.tens from ⟨x.cg, hc, rfl⟩)
  have HGO := Lib.hid (fun u (hu : Below w.heap.size w u) => sgreat_ok B lo d u (ho.on hu))
  have HOP := Lib.hid ho
  obtain ⟨C, hC⟩ : ∃ C, cfgB x.cg = C := ⟨_, rfl⟩
  simp only [hC] at HN0 HN1 HCF
  obtain ⟨tn, htn⟩ : ∃ tn, x.cg.tens = tn := ⟨_, rfl⟩
  rw [htn] at HN1 HCF
  obtain ⟨a0, a1, a2, a3, ts, A, c⟩ := x
  obtain ⟨n, hn⟩ : ∃ n, ts.length = n := ⟨_, rfl⟩
  simp only [ccs, hn] at HGR HN0 HN1 ⊢
  have HX := Lib.hid (show Bx w w.heap.size 24 #[.int .i64 a0, .int .i64 a1, .int .i64 a2, .int .i64 a3, .slice A n c] (w.alloc (.cells #[.int .i64 a0, .int .i64 a1, .int .i64 a2, .int .i64 a3, .slice A n c] 24)) from Bx.new w _ _)
  have HG := Lib.hid hG
  clear h hn hC htn hG
  obtain ⟨nl, hnl⟩ : ∃ k, lo.length = k := ⟨_, rfl⟩
  have HNL := Lib.hid hnl
  have hnl47 : nl ≤ 140737488355328 := by rw [← hnl]; exact ho.n
  rw [hnl] at HGO ⊢
  clear hnl ho
  go_enter Tryd.func3, Tryd.ntmps3
  go_upto_region 2 with (go_at_call 8; refine (shead_ok _ (HG.out.below HX.out.l HG.out.size)).mono ?_; rintro e u1 ⟨rfl, hb⟩; have HX1 := Lib.hid (HX.out.on hb); clear hb)
  obtain ⟨g0, hg0⟩ : ∃ g, w.heap.size = g := ⟨_, rfl⟩
  have HG0 := Lib.hid hg0
  rw [hg0] at HX1 ⊢
  clear hg0
  have e0 : u1.cell? ⟨g0, 0, none⟩ = some (.int .i64 a0) := HX1.out.b.cell 0
  have e1 : u1.cell? ⟨g0, 1, none⟩ = some (.int .i64 a1) := HX1.out.b.cell 1
  have e2 : u1.cell? ⟨g0, 2, none⟩ = some (.int .i64 a2) := HX1.out.b.cell 2
  have e3 : u1.cell? ⟨g0, 3, none⟩ = some (.int .i64 a3) := HX1.out.b.cell 3
  have e4 : u1.cell? ⟨g0, 4, none⟩ = some (.slice A n c) := HX1.out.b.cell 4
  cases C with
  | false =>
    go_wp2_with (go_at_call 9; (with_reducible refine (HN0.out (by first | rfl | trivial) _ HX1.out.l).mono ?_); rintro e u2 ⟨rfl, hb⟩; have HX2 := Lib.hid (HX1.out.on hb); clear hb)
    go_ret
    exact ⟨rfl, HX2.out.l⟩
  | true =>
    go_upto_region 3 with (go_at_call 9; (with_reducible refine (HN1.out (by first | rfl | trivial) _ HX1.out.l [(g0, 24, #[.int .i64 a0, .int .i64 a1, .int .i64 a2, .int .i64 a3, .slice A n c])] (fun b hb => by obtain rfl := List.mem_singleton.1 hb; exact HX1.out.b)).mono ?_); rintro e u2 ⟨v, mb, rfl, hv, _, _, hbb⟩; have HV2 := Lib.hid hv; have HBB2 := Lib.hid hbb; clear hv hbb)
    clear e0 e1 e2 e3 e4
    have HSB := Lib.hid (show Sb w u2 v mb tn from ⟨HV2.out.less (fun b hb => absurd hb List.not_mem_nil), HCF.out (by first | rfl | trivial)⟩)
    have HMV := Lib.hid (show Mv u2 mb [] from HV2.out.va.mp)
    have e0 : u2.cell? ⟨g0, 0, none⟩ = some (.int .i64 a0) := HV2.out.head.cell 0
    have e1 : u2.cell? ⟨g0, 1, none⟩ = some (.int .i64 a1) := HV2.out.head.cell 1
    have e2 : u2.cell? ⟨g0, 2, none⟩ = some (.int .i64 a2) := HV2.out.head.cell 2
    have e3 : u2.cell? ⟨g0, 3, none⟩ = some (.int .i64 a3) := HV2.out.head.cell 3
    have e4 : u2.cell? ⟨g0, 4, none⟩ = some (.slice A n c) := HV2.out.head.cell 4
    go_upto_region 5 with (first
      | (go_at_call 10; (with_reducible refine (HGR.out _ HV2.out.l).mono ?_); rintro e u3 ⟨gr, rfl, _, hb⟩; have HV3 := Lib.hid (HV2.out.on hb); have HK3 := Lib.hid (show Ke [mb] u2 u3 from (Ke.of hb).nil); have HM3 := Lib.hid (show Mv u3 mb [] from HMV.out.ke (Ke.of hb) (by simp)); clear hb; cases gr)
      | (go_at_call 11; (with_reducible refine (HGO.out _ HV3.out.l).mono ?_); rintro e u4 ⟨g2, rfl, hob, hb⟩; have HV4 := Lib.hid (HV3.out.on hb); have HOB := Lib.hid hob; have HK4 := Lib.hid (show Ke [mb] u2 u4 from HK3.out.trans (Ke.of hb).nil); have HM4 := Lib.hid (show Mv u4 mb [] from HM3.out.ke (Ke.of hb) (by simp)); clear hb hob; cases g2))
    any_goals (go_ret; first | exact ⟨rfl, HV3.out.l⟩ | exact ⟨rfl, HV4.out.l⟩)
    have HOB2 := Lib.hid (show SkB lo from HOB.out (by first | rfl | trivial))
    clear HOB e0 e1 e2 e3 e4
    go_upto_region 6 with (go_at_call 12; (with_reducible refine (ss_new HSB.out [] HK4.out HM4.out (fun y hy => absurd hy List.not_mem_nil)).mono ?_); rintro e u5 ⟨rfl, hs⟩; have HS5 := Lib.hid hs; clear hs)
    obtain ⟨sb, hsb⟩ : ∃ sb, u4.heap.size = sb := ⟨_, rfl⟩
    rw [hsb] at HS5 ⊢
    clear hsb HV2 HV3 HV4 HK3 HM3 HK4 HM4 HMV HN0 HN1 HX HX1 HGR
    go_wp2_with fail
    go_loopw [8] (fun v8 wr => ∃ (i : Nat) (s : Sk), i ≤ nl ∧ v8 = .int .i64 (i : Int) ∧ Hid (runS (ckF tn []) (lo.take i) = s) ∧ Hid (Ss u2 mb [] sb v s [] wr)) (fun v8 _ => nl - (intOf v8).toNat)
    case atStart => exact ⟨0, .new, by omega, rfl, Lib.hid rfl, HS5⟩
    case round =>
      obtain ⟨i, s, hi, rfl, HRN, HV⟩ := hrel
      by_cases hi1 : i < nl
      · have hi2 : (i : Int) < (nl : Int) := by omega
        obtain ⟨b, o, x, rfl, hx, hsm, hc⟩ := HOP.out.at8 i (by rw [HNL.out]; exact hi1)
        have HXI := Lib.hid hx
        have HFE := Lib.hid (HOB2.out.x x (List.mem_of_getElem? hx))
        obtain ⟨xw, ⟨xk, xa, xb, xn, xm⟩, xo, xs⟩ := x
        dsimp only at hc
        have HC := Lib.hid hc
        have HZS := Lib.hid (show xa.size ≤ 9000 ∧ xb.size ≤ 9000 ∧ xs.size ≤ 2000 by have h1 := HFE.out; unfold So.few at h1; dsimp only at h1; omega)
        clear hc hx hsm HFE
        have HHR := Lib.hid (show ∀ L u, Ss u2 mb [] sb v s L u → Calls Tryd.prog 13 #[.pointer (some ⟨sb, 0, none⟩), .agg #[.int .i64 xk, .string xa, .string xb, .int .i64 xn, .int .i64 xm], .int .i64 xo, .string xs] u fun e u' => e = .returned (.tuple #[.agg (hsM (ckF tn []) s ⟨xk, xa, xb, xn, xm⟩ xo xs).cells, .bool (!ovS s)]) ∧ Ss u2 mb [] sb v (hsS (ckF tn []) s ⟨xk, xa, xb, xn, xm⟩ xo xs) L u' from fun L u hu => ss_hear HSB.out HG.out hu ⟨xk, xa, xb, xn, xm⟩ xo xs (show xa.size ≤ 1099511627776 by have := HZS.out; omega) (show xb.size ≤ 140737488355328 by have := HZS.out; omega))
        go_upto_region 11 with fail
        try simp only [List.cons_append, List.nil_append]
        try simp only [List.cons_append, List.nil_append]
        refine wp_region_held_drew (S := fun wz => Below w.heap.size w wz) (by kernel_rfl) ((HSB.out.low HV.out).drew) (fun hHeld => ?_)
        obtain ⟨wd, hwd⟩ : ∃ wd, wr.drew = wd := ⟨_, rfl⟩
        have HVD := Lib.hid (show Ss u2 mb [] sb v s [] wd from by rw [← hwd]; exact HV.out.on (Below.refl _ _).drew)
        rw [hwd] at hHeld ⊢
        clear hwd
        refine take_at (some 39) (i := 0) (v := ?_) rfl rfl (by kernel_rfl) (by kernel_rfl) (by kernel_rfl) (fun _ _ _ h => h) (Or.inl ⟨by kernel_rfl, ?_⟩) hHeld ?_
        rotate_left
        · intro wz hSw; go_simp; try (with_reducible rfl)
        try simp only [Act.put, List.setIfInBounds_toArray, List.set_cons_zero, List.set_cons_succ, List.getElem_toArray, List.getElem_cons_succ, List.getElem_cons_zero]
        refine take_at (some 40) (i := 1) (v := ?_) rfl rfl (by kernel_rfl) (by kernel_rfl) (by kernel_rfl) (fun _ _ _ h => h) (Or.inl ⟨by kernel_rfl, ?_⟩) hHeld ?_
        rotate_left
        · intro wz hSw; go_simp; try (with_reducible rfl)
        try simp only [Act.put, List.setIfInBounds_toArray, List.set_cons_zero, List.set_cons_succ, List.getElem_toArray, List.getElem_cons_succ, List.getElem_cons_zero]
        refine take_at (some 41) (i := 2) (v := ?_) rfl rfl (by kernel_rfl) (by kernel_rfl) (by kernel_rfl) (fun _ _ _ h => h) (Or.inl ⟨by kernel_rfl, ?_⟩) hHeld ?_
        rotate_left
        · intro wz hSw; go_simp; try (with_reducible rfl)
        try simp only [Act.put, List.setIfInBounds_toArray, List.set_cons_zero, List.set_cons_succ, List.getElem_toArray, List.getElem_cons_succ, List.getElem_cons_zero]
        refine take_at (some 42) (i := 3) (v := ?_) rfl rfl (by kernel_rfl) (by kernel_rfl) (by kernel_rfl) (fun _ _ _ h => h) (Or.inl ⟨by kernel_rfl, ?_⟩) hHeld ?_
        rotate_left
        · intro wz hSw; obtain ⟨k0, k1, k2, k3, k4, k5, k6, k7⟩ := HC.out wz hSw; go_simp; try (with_reducible rfl)
        try simp only [Act.put, List.setIfInBounds_toArray, List.set_cons_zero, List.set_cons_succ, List.getElem_toArray, List.getElem_cons_succ, List.getElem_cons_zero]
        refine take_at (some 43) (i := 4) (v := ?_) rfl rfl (by kernel_rfl) (by kernel_rfl) (by kernel_rfl) (fun _ _ _ h => h) (Or.inl ⟨by kernel_rfl, ?_⟩) hHeld ?_
        rotate_left
        · intro wz hSw; obtain ⟨k0, k1, k2, k3, k4, k5, k6, k7⟩ := HC.out wz hSw; go_simp; try (with_reducible rfl)
        try simp only [Act.put, List.setIfInBounds_toArray, List.set_cons_zero, List.set_cons_succ, List.getElem_toArray, List.getElem_cons_succ, List.getElem_cons_zero]
        refine take_at (some 44) (i := 5) (v := ?_) rfl rfl (by kernel_rfl) (by kernel_rfl) (by kernel_rfl) (fun _ _ _ h => h) (Or.inl ⟨by kernel_rfl, ?_⟩) hHeld ?_
        rotate_left
        · intro wz hSw; obtain ⟨k0, k1, k2, k3, k4, k5, k6, k7⟩ := HC.out wz hSw; go_simp; try (with_reducible rfl)
        try simp only [Act.put, List.setIfInBounds_toArray, List.set_cons_zero, List.set_cons_succ, List.getElem_toArray, List.getElem_cons_succ, List.getElem_cons_zero]
        refine take_at (some 45) (i := 6) (v := ?_) rfl rfl (by kernel_rfl) (by kernel_rfl) (by kernel_rfl) (fun _ _ _ h => h) (Or.inl ⟨by kernel_rfl, ?_⟩) hHeld ?_
        rotate_left
        · intro wz hSw; go_simp; try (with_reducible rfl)
        try simp only [Act.put, List.setIfInBounds_toArray, List.set_cons_zero, List.set_cons_succ, List.getElem_toArray, List.getElem_cons_succ, List.getElem_cons_zero]
        refine take_at (some 46) (i := 7) (v := ?_) rfl rfl (by kernel_rfl) (by kernel_rfl) (by kernel_rfl) (fun _ _ _ h => h) (Or.inl ⟨by kernel_rfl, ?_⟩) hHeld ?_
        rotate_left
        · intro wz hSw; go_simp; try (with_reducible rfl)
        try simp only [Act.put, List.setIfInBounds_toArray, List.set_cons_zero, List.set_cons_succ, List.getElem_toArray, List.getElem_cons_succ, List.getElem_cons_zero]
        refine take_at (some 47) (i := 8) (v := ?_) rfl rfl (by kernel_rfl) (by kernel_rfl) (by kernel_rfl) (fun _ _ _ h => h) (Or.inl ⟨by kernel_rfl, ?_⟩) hHeld ?_
        rotate_left
        · intro wz hSw; obtain ⟨k0, k1, k2, k3, k4, k5, k6, k7⟩ := HC.out wz hSw; go_simp; try (with_reducible rfl)
        try simp only [Act.put, List.setIfInBounds_toArray, List.set_cons_zero, List.set_cons_succ, List.getElem_toArray, List.getElem_cons_succ, List.getElem_cons_zero]
        refine take_at (some 48) (i := 9) (v := ?_) rfl rfl (by kernel_rfl) (by kernel_rfl) (by kernel_rfl) (fun _ _ _ h => h) (Or.inl ⟨by kernel_rfl, ?_⟩) hHeld ?_
        rotate_left
        · intro wz hSw; obtain ⟨k0, k1, k2, k3, k4, k5, k6, k7⟩ := HC.out wz hSw; go_simp; try (with_reducible rfl)
        try simp only [Act.put, List.setIfInBounds_toArray, List.set_cons_zero, List.set_cons_succ, List.getElem_toArray, List.getElem_cons_succ, List.getElem_cons_zero]
        refine take_at (some 49) (i := 10) (v := ?_) rfl rfl (by kernel_rfl) (by kernel_rfl) (by kernel_rfl) (fun _ _ _ h => h) (Or.inl ⟨by kernel_rfl, ?_⟩) hHeld ?_
        rotate_left
        · intro wz hSw; obtain ⟨k0, k1, k2, k3, k4, k5, k6, k7⟩ := HC.out wz hSw; go_simp; try (with_reducible rfl)
        try simp only [Act.put, List.setIfInBounds_toArray, List.set_cons_zero, List.set_cons_succ, List.getElem_toArray, List.getElem_cons_succ, List.getElem_cons_zero]
        refine take_at (some 50) (i := 11) (v := ?_) rfl rfl (by kernel_rfl) (by kernel_rfl) (by kernel_rfl) (fun _ _ _ h => h) (Or.inl ⟨by kernel_rfl, ?_⟩) hHeld ?_
        rotate_left
        · intro wz hSw; go_simp; try (with_reducible rfl)
        try simp only [Act.put, List.setIfInBounds_toArray, List.set_cons_zero, List.set_cons_succ, List.getElem_toArray, List.getElem_cons_succ, List.getElem_cons_zero]
        refine take_at (some 51) (i := 12) (v := ?_) rfl rfl (by kernel_rfl) (by kernel_rfl) (by kernel_rfl) (fun _ _ _ h => h) (Or.inl ⟨by kernel_rfl, ?_⟩) hHeld ?_
        rotate_left
        · intro wz hSw; go_simp; try (with_reducible rfl)
        try simp only [Act.put, List.setIfInBounds_toArray, List.set_cons_zero, List.set_cons_succ, List.getElem_toArray, List.getElem_cons_succ, List.getElem_cons_zero]
        refine take_at (some 52) (i := 13) (v := ?_) rfl rfl (by kernel_rfl) (by kernel_rfl) (by kernel_rfl) (fun _ _ _ h => h) (Or.inl ⟨by kernel_rfl, ?_⟩) hHeld ?_
        rotate_left
        · intro wz hSw; obtain ⟨k0, k1, k2, k3, k4, k5, k6, k7⟩ := HC.out wz hSw; go_simp; try (with_reducible rfl)
        try simp only [Act.put, List.setIfInBounds_toArray, List.set_cons_zero, List.set_cons_succ, List.getElem_toArray, List.getElem_cons_succ, List.getElem_cons_zero]
        refine take_at (some 53) (i := 14) (v := ?_) rfl rfl (by kernel_rfl) (by kernel_rfl) (by kernel_rfl) (fun _ _ _ h => h) (Or.inl ⟨by kernel_rfl, ?_⟩) hHeld ?_
        rotate_left
        · intro wz hSw; obtain ⟨k0, k1, k2, k3, k4, k5, k6, k7⟩ := HC.out wz hSw; go_simp; try (with_reducible rfl)
        try simp only [Act.put, List.setIfInBounds_toArray, List.set_cons_zero, List.set_cons_succ, List.getElem_toArray, List.getElem_cons_succ, List.getElem_cons_zero]
        refine take_at (some 54) (i := 15) (v := ?_) rfl rfl (by kernel_rfl) (by kernel_rfl) (by kernel_rfl) (fun _ _ _ h => h) (Or.inl ⟨by kernel_rfl, ?_⟩) hHeld ?_
        rotate_left
        · intro wz hSw; obtain ⟨k0, k1, k2, k3, k4, k5, k6, k7⟩ := HC.out wz hSw; go_simp; try (with_reducible rfl)
        try simp only [Act.put, List.setIfInBounds_toArray, List.set_cons_zero, List.set_cons_succ, List.getElem_toArray, List.getElem_cons_succ, List.getElem_cons_zero]
        refine wpAnyH_ready (rs := [16]) (by kernel_rfl) (by simp) (AllReadyH.cons rfl (fun K hK => ?_) AllReadyH.nil)
        rw [if_pos (by kernel_rfl)]
        go_simp
        refine (HHR.out _ _ HVD.out).mono ?_
        rintro e x1 ⟨rfl, hy⟩
        try dsimp only
        have HVC := Lib.hid hy
        clear hy
        refine hK.out _ _ (HSB.out.low HVC.out) (fun hHeld => ?_)
        try simp only [Act.put, List.setIfInBounds_toArray, List.set_cons_zero, List.set_cons_succ, List.getElem_toArray, List.getElem_cons_succ, List.getElem_cons_zero]
        refine wpAnyH_done (by kernel_rfl) ?_ _
        refine gen_qS (fun y => Ss u2 mb [] sb v (hsS (ckF tn []) s ⟨xk, xa, xb, xn, xm⟩ xo xs) [] y) HVC.out (fun y hy => ?_)
        have HY := Lib.hid hy
        clear hy hHeld HVC HVD HV
        go_wp2
        go_roundw
        case rel => exact ⟨i + 1, hsS (ckF tn []) s ⟨xk, xa, xb, xn, xm⟩ xo xs, by omega, by go_num, Lib.hid (by rw [List.take_add_one, HXI.out, show (some (⟨xw, ⟨xk, xa, xb, xn, xm⟩, xo, xs⟩ : So)).toList = [⟨xw, ⟨xk, xa, xb, xn, xm⟩, xo, xs⟩] from rfl, runS_snoc, HRN.out]), HY⟩
        case measure => simp [intOf]; omega
      · have hi2 : ¬ (i : Int) < (nl : Int) := by omega
        have HRL := Lib.hid (show runS (ckF tn []) lo = s by
          have h1 := HRN.out
          rwa [List.take_of_length_le (by rw [HNL.out]; omega)] at h1)
        have HWH := Lib.hid (fun L u (hu : Ss u2 mb [] sb v s L u) => ss_who hu)
        by_cases hn2 : nl < 2
        · have hn3 : (nl : Int) < 2 := by omega
          have hkn : knS s = false := by rw [← HRL.out]; exact run_short (by rw [HNL.out]; exact hn2)
          simp only [hkn] at HWH
          clear hkn
          go_wp2_with (go_at_call 14; (with_reducible refine (HWH.out _ _ HV.out).mono ?_); rintro e u6 ⟨rfl, hs⟩; have HV6 := Lib.hid hs; clear hs)
          go_ret
          exact ⟨rfl, HSB.out.low HV6.out⟩
        have hn3 : ¬ (nl : Int) < 2 := by omega
        have hn4 : (0 : Int) < (nl : Int) := by omega
        have hn5 : (1 : Int) < (nl : Int) := by omega
        have hn6 : 0 < nl := by omega
        have hn7 : 1 < nl := by omega
        obtain ⟨b, oo, x, rfl, hx, hsm, hc⟩ := HOP.out.at8 0 (by rw [HNL.out]; omega)
        obtain ⟨b', o', y, hbo, hy, hsm', hc'⟩ := HOP.out.at8 1 (by rw [HNL.out]; omega)
        injection hbo with hbo
        injection hbo with hb1 hb2
        subst hb1
        subst hb2
        have HF1 := Lib.hid (HOB2.out.x x (List.mem_of_getElem? hx))
        have HF2 := Lib.hid (HOB2.out.x y (List.mem_of_getElem? hy))
        obtain ⟨rest, hrest⟩ : ∃ r, lo = x :: y :: r := by
          match lo, hx, hy with
          | x' :: y' :: r, hx, hy =>
            simp at hx hy
            exact ⟨r, by rw [hx, hy]⟩
        obtain ⟨W, hW⟩ : ∃ W : ByteArray, (⟨(wnB (tkN tn x.m.a x.m.b) x.m.a x.m.b (cutN x.nn)).toArray⟩ : ByteArray) = W := ⟨_, rfl⟩
        obtain ⟨kn, s2, hr2, hkn, hw1, hw0, hke⟩ := just_out tn x y rest W hW
        have hs2 : s2 = s := by rw [← hr2, ← HRL.out, hrest]
        subst hs2
        have HCX := Lib.hid hc
        have HCY := Lib.hid hc'
        have HCS := Lib.hid (cutN_small x.nn)
        obtain ⟨xw, ⟨xk, xa, xb, xn, xm⟩, xo, xs⟩ := x
        obtain ⟨yw, ⟨yk, ya, yb, yn, ym⟩, yo, ys⟩ := y
        dsimp only at HCX HCY hW hkn hw1 hw0 hke HCS
        obtain ⟨m, hm⟩ : ∃ m : Nat, min xs.size 64 = m := ⟨_, rfl⟩
        have HMIN := Lib.hid (show min (xs.size : Int) (64 : Int) = (m : Int) by omega)
        have HSL := Lib.hid (fun u => cut_run xs m hm u)
        obtain ⟨cn, hcn⟩ : ∃ cn, cutN xs = cn := ⟨_, rfl⟩
        rw [hcn] at hW HCS
        simp only [hcn] at HSL
        obtain ⟨gd, hgd⟩ : ∃ gd, gdB (tkN tn xa xb) (inR [] xa xb) yo = gd := ⟨_, rfl⟩
        obtain ⟨pe, hpe⟩ : ∃ pe, ya.toList.isEmpty = pe := ⟨_, rfl⟩
        obtain ⟨al, hal⟩ : ∃ al, (ya.toList == W.toList) = al := ⟨_, rfl⟩
        rw [hgd, hpe, hal] at hke
        have HGO2 := Lib.hid (show ∀ L u, Ss u2 mb [] sb v s2 L u → Calls Tryd.prog 15 #[.pointer (some ⟨v, 0, none⟩), .string xa, .string xb, .int .i64 yo] u fun e u' => e = .returned (.bool gd) ∧ Ss u2 mb [] sb v s2 L u' from fun L u hu => by rw [← hgd]; exact ss_good HSB.out hu xa xb yo)
        have HWA := Lib.hid (show ∀ L u, Ss u2 mb [] sb v s2 L u → Calls Tryd.prog 16 #[.pointer (some ⟨v, 0, none⟩), .string xa, .string xb, .string cn] u fun e u' => e = .returned (.string W) ∧ Ss u2 mb [] sb v s2 L u' from fun L u hu => by rw [← hW]; exact ss_want HSB.out HG.out hu xa xb cn (by have := HCS.out; omega))
        simp only [hkn] at HWH
        obtain ⟨wh, hwh⟩ : ∃ z, whS s2 = z := ⟨_, rfl⟩
        simp only [hwh] at HWH
        rw [hwh] at hw1 hw0
        have HKE := Lib.hid hke
        have HW1 := Lib.hid hw1
        have HW0 := Lib.hid hw0
        have HPE := Lib.hid hpe
        have HAL := Lib.hid hal
        clear hrest hr2 hkn hw1 hw0 hke hW hgd hpe hal hwh hcn hm hx hy hsm hsm' hc hc' HRN HF1 HF2
        go_upto_region 13 with (go_at_call 14; (with_reducible refine (HWH.out _ _ HV.out).mono ?_); rintro e u6 ⟨rfl, hs⟩; have HV6 := Lib.hid hs; clear hs HV)
        obtain ⟨x0, x1, x2, x3, x4, x5, x6, x7⟩ := HCX.out u6 (HSB.out.low HV6.out)
        obtain ⟨q0, q1, q2, q3, q4, q5, q6, q7⟩ := HCY.out u6 (HSB.out.low HV6.out)
        simp only [Nat.zero_mul, Nat.one_mul, Nat.add_zero] at x0 x1 x2 x3 x4 x5 x6 x7 q0 q1 q2 q3 q4 q5 q6 q7
        go_upto_region 16 with fail
        have HY7 := Lib.hid (HV6.out.new 34 #[.int .i64 xk, .string xa, .string xb, .int .i64 xn, .int .i64 xm])
        obtain ⟨y7, hy⟩ : ∃ y, u6.alloc (.cells #[.int .i64 xk, .string xa, .string xb, .int .i64 xn, .int .i64 xm] 34) = y := ⟨_, rfl⟩
        obtain ⟨g7, hg⟩ : ∃ g, u6.heap.size = g := ⟨_, rfl⟩
        rw [hy, hg] at HY7
        rw [hy] ; rw [hg]
        clear hy hg HV6 x0 x1 x2 x3 x4 x5 x6 x7 q0 q1 q2 q3 q4 q5 q6 q7
        obtain ⟨q0, q1, q2, q3, q4, q5, q6, q7⟩ := HCY.out y7 (HSB.out.low HY7.out)
        simp only [Nat.one_mul] at q0 q1 q2 q3 q4 q5 q6 q7
        go_upto_region 17 with fail
        have HY8 := Lib.hid (HY7.out.new 34 #[.int .i64 yk, .string ya, .string yb, .int .i64 yn, .int .i64 ym])
        obtain ⟨y8, hy⟩ : ∃ y, y7.alloc (.cells #[.int .i64 yk, .string ya, .string yb, .int .i64 yn, .int .i64 ym] 34) = y := ⟨_, rfl⟩
        obtain ⟨g8, hg⟩ : ∃ g, y7.heap.size = g := ⟨_, rfl⟩
        rw [hy, hg] at HY8
        rw [hy] ; rw [hg]
        clear hy hg HY7 q0 q1 q2 q3 q4 q5 q6 q7
        try simp only [List.cons_append, List.nil_append]
        try simp only [List.cons_append, List.nil_append]
        refine wp_region_held_drew (S := fun wz => Ss u2 mb [] sb v s2 [(g8, 34, #[.int .i64 yk, .string ya, .string yb, .int .i64 yn, .int .i64 ym]), (g7, 34, #[.int .i64 xk, .string xa, .string xb, .int .i64 xn, .int .i64 xm])] wz) (by kernel_rfl) (HY8.out.on (Below.refl _ _).drew) (fun hHeld => ?_)
        refine take_at (some 77) (i := 0) (v := ?_) rfl rfl (by kernel_rfl) (by kernel_rfl) (by kernel_rfl) (fun _ _ _ h => h) (Or.inl ⟨by kernel_rfl, ?_⟩) hHeld ?_
        rotate_left
        · intro wz hSw; go_simp; try (with_reducible rfl)
        try simp only [Act.put, List.setIfInBounds_toArray, List.set_cons_zero, List.set_cons_succ, List.getElem_toArray, List.getElem_cons_succ, List.getElem_cons_zero]
        refine take_at (some 78) (i := 1) (v := ?_) rfl rfl (by kernel_rfl) (by kernel_rfl) (by kernel_rfl) (fun _ _ _ h => h) (Or.inl ⟨by kernel_rfl, ?_⟩) hHeld ?_
        rotate_left
        · intro wz hSw; have hBx := HSB.out.low hSw; obtain ⟨x0, x1, x2, x3, x4, x5, x6, x7⟩ := HCX.out wz hBx; obtain ⟨q0, q1, q2, q3, q4, q5, q6, q7⟩ := HCY.out wz hBx; simp only [Nat.zero_mul, Nat.one_mul, Nat.add_zero] at x0 x1 x2 x3 x4 x5 x6 x7 q0 q1 q2 q3 q4 q5 q6 q7; clear hBx; go_simp; try (with_reducible rfl)
        try simp only [Act.put, List.setIfInBounds_toArray, List.set_cons_zero, List.set_cons_succ, List.getElem_toArray, List.getElem_cons_succ, List.getElem_cons_zero]
        refine take_at (some 79) (i := 2) (v := ?_) rfl rfl (by kernel_rfl) (by kernel_rfl) (by kernel_rfl) (fun _ _ _ h => h) (Or.inl ⟨by kernel_rfl, ?_⟩) hHeld ?_
        rotate_left
        · intro wz hSw; have hBx := HSB.out.low hSw; obtain ⟨x0, x1, x2, x3, x4, x5, x6, x7⟩ := HCX.out wz hBx; obtain ⟨q0, q1, q2, q3, q4, q5, q6, q7⟩ := HCY.out wz hBx; simp only [Nat.zero_mul, Nat.one_mul, Nat.add_zero] at x0 x1 x2 x3 x4 x5 x6 x7 q0 q1 q2 q3 q4 q5 q6 q7; clear hBx; go_simp; try (with_reducible rfl)
        try simp only [Act.put, List.setIfInBounds_toArray, List.set_cons_zero, List.set_cons_succ, List.getElem_toArray, List.getElem_cons_succ, List.getElem_cons_zero]
        refine take_at (some 80) (i := 3) (v := ?_) rfl rfl (by kernel_rfl) (by kernel_rfl) (by kernel_rfl) (fun _ _ _ h => h) (Or.inl ⟨by kernel_rfl, ?_⟩) hHeld ?_
        rotate_left
        · intro wz hSw; have hBx := HSB.out.low hSw; obtain ⟨x0, x1, x2, x3, x4, x5, x6, x7⟩ := HCX.out wz hBx; obtain ⟨q0, q1, q2, q3, q4, q5, q6, q7⟩ := HCY.out wz hBx; simp only [Nat.zero_mul, Nat.one_mul, Nat.add_zero] at x0 x1 x2 x3 x4 x5 x6 x7 q0 q1 q2 q3 q4 q5 q6 q7; clear hBx; go_simp; try (with_reducible rfl)
        try simp only [Act.put, List.setIfInBounds_toArray, List.set_cons_zero, List.set_cons_succ, List.getElem_toArray, List.getElem_cons_succ, List.getElem_cons_zero]
        refine take_at (some 81) (i := 4) (v := ?_) rfl rfl (by kernel_rfl) (by kernel_rfl) (by kernel_rfl) (fun _ _ _ h => h) (Or.inl ⟨by kernel_rfl, ?_⟩) hHeld ?_
        rotate_left
        · intro wz hSw; go_simp; try (with_reducible rfl)
        try simp only [Act.put, List.setIfInBounds_toArray, List.set_cons_zero, List.set_cons_succ, List.getElem_toArray, List.getElem_cons_succ, List.getElem_cons_zero]
        refine take_at (some 82) (i := 5) (v := ?_) rfl rfl (by kernel_rfl) (by kernel_rfl) (by kernel_rfl) (fun _ _ _ h => h) (Or.inl ⟨by kernel_rfl, ?_⟩) hHeld ?_
        rotate_left
        · intro wz hSw; have hBx := HSB.out.low hSw; obtain ⟨x0, x1, x2, x3, x4, x5, x6, x7⟩ := HCX.out wz hBx; obtain ⟨q0, q1, q2, q3, q4, q5, q6, q7⟩ := HCY.out wz hBx; simp only [Nat.zero_mul, Nat.one_mul, Nat.add_zero] at x0 x1 x2 x3 x4 x5 x6 x7 q0 q1 q2 q3 q4 q5 q6 q7; clear hBx; go_simp; try (with_reducible rfl)
        try simp only [Act.put, List.setIfInBounds_toArray, List.set_cons_zero, List.set_cons_succ, List.getElem_toArray, List.getElem_cons_succ, List.getElem_cons_zero]
        refine take_at (some 83) (i := 6) (v := ?_) rfl rfl (by kernel_rfl) (by kernel_rfl) (by kernel_rfl) (fun _ _ _ h => h) (Or.inl ⟨by kernel_rfl, ?_⟩) hHeld ?_
        rotate_left
        · intro wz hSw; have hBx := HSB.out.low hSw; obtain ⟨x0, x1, x2, x3, x4, x5, x6, x7⟩ := HCX.out wz hBx; obtain ⟨q0, q1, q2, q3, q4, q5, q6, q7⟩ := HCY.out wz hBx; simp only [Nat.zero_mul, Nat.one_mul, Nat.add_zero] at x0 x1 x2 x3 x4 x5 x6 x7 q0 q1 q2 q3 q4 q5 q6 q7; clear hBx; go_simp; try (with_reducible rfl)
        try simp only [Act.put, List.setIfInBounds_toArray, List.set_cons_zero, List.set_cons_succ, List.getElem_toArray, List.getElem_cons_succ, List.getElem_cons_zero]
        refine take_at (some 84) (i := 7) (v := ?_) rfl rfl (by kernel_rfl) (by kernel_rfl) (by kernel_rfl) (fun _ _ _ h => h) (Or.inl ⟨by kernel_rfl, ?_⟩) hHeld ?_
        rotate_left
        · intro wz hSw; have hBx := HSB.out.low hSw; obtain ⟨x0, x1, x2, x3, x4, x5, x6, x7⟩ := HCX.out wz hBx; obtain ⟨q0, q1, q2, q3, q4, q5, q6, q7⟩ := HCY.out wz hBx; simp only [Nat.zero_mul, Nat.one_mul, Nat.add_zero] at x0 x1 x2 x3 x4 x5 x6 x7 q0 q1 q2 q3 q4 q5 q6 q7; clear hBx; go_simp; try (with_reducible rfl)
        try simp only [Act.put, List.setIfInBounds_toArray, List.set_cons_zero, List.set_cons_succ, List.getElem_toArray, List.getElem_cons_succ, List.getElem_cons_zero]
        refine take_at (some 85) (i := 8) (v := ?_) rfl rfl (by kernel_rfl) (by kernel_rfl) (by kernel_rfl) (fun _ _ _ h => h) (Or.inl ⟨by kernel_rfl, ?_⟩) hHeld ?_
        rotate_left
        · intro wz hSw; have hBx := HSB.out.low hSw; obtain ⟨x0, x1, x2, x3, x4, x5, x6, x7⟩ := HCX.out wz hBx; obtain ⟨q0, q1, q2, q3, q4, q5, q6, q7⟩ := HCY.out wz hBx; simp only [Nat.zero_mul, Nat.one_mul, Nat.add_zero] at x0 x1 x2 x3 x4 x5 x6 x7 q0 q1 q2 q3 q4 q5 q6 q7; clear hBx; go_simp; try (with_reducible rfl)
        try simp only [Act.put, List.setIfInBounds_toArray, List.set_cons_zero, List.set_cons_succ, List.getElem_toArray, List.getElem_cons_succ, List.getElem_cons_zero]
        refine take_at (some 86) (i := 9) rfl rfl (by kernel_rfl) (by kernel_rfl) (by kernel_rfl) (fun _ _ _ h => h) (yieldsIf_min (by kernel_rfl) (.tmp 85) (.const (.int .i64 64)) 3 rfl _ _ _ rfl rfl HMIN.out) hHeld ?_
        try simp only [Act.put, List.setIfInBounds_toArray, List.set_cons_zero, List.set_cons_succ, List.getElem_toArray, List.getElem_cons_succ, List.getElem_cons_zero]
        refine take_at (some 87) (i := 10) rfl rfl (by kernel_rfl) (by kernel_rfl) (by kernel_rfl) (fun _ _ _ h => h) (yieldsIf_slice (by kernel_rfl) 9 (.tmp 80) none (some (.tmp 86)) rfl _ (fun wz => HSL.out wz)) hHeld ?_
        try simp only [Act.put, List.setIfInBounds_toArray, List.set_cons_zero, List.set_cons_succ, List.getElem_toArray, List.getElem_cons_succ, List.getElem_cons_zero]
        refine take_at (some 13) (i := 11) (v := ?_) rfl rfl (by kernel_rfl) (by kernel_rfl) (by kernel_rfl) (fun _ _ _ h => h) (Or.inl ⟨by kernel_rfl, ?_⟩) hHeld ?_
        rotate_left
        · intro wz hSw; go_simp; try (with_reducible rfl)
        try simp only [Act.put, List.setIfInBounds_toArray, List.set_cons_zero, List.set_cons_succ, List.getElem_toArray, List.getElem_cons_succ, List.getElem_cons_zero]
        refine wpAnyH_done (by kernel_rfl) ?_ _
        refine gen_qS (fun y => Ss u2 mb [] sb v s2 [(g8, 34, #[.int .i64 yk, .string ya, .string yb, .int .i64 yn, .int .i64 ym]), (g7, 34, #[.int .i64 xk, .string xa, .string xb, .int .i64 xn, .int .i64 xm])] y) hHeld (fun y9 hy9 => ?_)
        have HY9 := Lib.hid hy9
        clear hy9 hHeld HY8
        go_upto_region 18 with fail
        try simp only [List.cons_append, List.nil_append]
        by_cases hk1 : xk = 1
        rotate_left
        · have hk2 : (xk == 1) = false := beq_eq_false_iff_ne.2 hk1
          rw [hk2] at HKE
          obtain rfl : kn = false := HKE.out
          obtain rfl := HW0.out rfl
          have hem : eS.toList.isEmpty = true := by unfold eS; rw [ByteArray.toList_eq]; rfl
          have hem2 : (eS.toList == []) = true := by unfold eS; rw [ByteArray.toList_eq]; rfl
          try simp only [List.cons_append, List.nil_append]
          refine wp_region_held_drew (S := fun wz => Ss u2 mb [] sb v s2 [(g8, 34, #[.int .i64 yk, .string ya, .string yb, .int .i64 yn, .int .i64 ym]), (g7, 34, #[.int .i64 xk, .string xa, .string xb, .int .i64 xn, .int .i64 xm])] wz) (by kernel_rfl) (HY9.out.on (Below.refl _ _).drew) (fun hHeld => ?_)
          refine take_at (some 88) (i := 0) (v := ?_) rfl rfl (by kernel_rfl) (by kernel_rfl) (by kernel_rfl) (fun _ _ _ h => h) (Or.inl ⟨by kernel_rfl, ?_⟩) hHeld ?_
          rotate_left
          · intro wz hSw; have a0 : wz.cell? ⟨g7, 0, none⟩ = some (.int .i64 xk) := (hSw.bk (b := g7) (t := 34) (cs := #[.int .i64 xk, .string xa, .string xb, .int .i64 xn, .int .i64 xm]) (by simp)).cell 0; have a1 : wz.cell? ⟨g7, 1, none⟩ = some (.string xa) := (hSw.bk (b := g7) (t := 34) (cs := #[.int .i64 xk, .string xa, .string xb, .int .i64 xn, .int .i64 xm]) (by simp)).cell 1; have a2 : wz.cell? ⟨g7, 2, none⟩ = some (.string xb) := (hSw.bk (b := g7) (t := 34) (cs := #[.int .i64 xk, .string xa, .string xb, .int .i64 xn, .int .i64 xm]) (by simp)).cell 2; have b0 : wz.cell? ⟨g8, 0, none⟩ = some (.int .i64 yk) := hSw.head.cell 0; have b1 : wz.cell? ⟨g8, 1, none⟩ = some (.string ya) := hSw.head.cell 1; go_simp; try (with_reducible rfl)
          try simp only [Act.put, List.setIfInBounds_toArray, List.set_cons_zero, List.set_cons_succ, List.getElem_toArray, List.getElem_cons_succ, List.getElem_cons_zero]
          refine take_at (some 89) (i := 1) (v := ?_) rfl rfl (by kernel_rfl) (by kernel_rfl) (by kernel_rfl) (fun _ _ _ h => h) (Or.inl ⟨by kernel_rfl, ?_⟩) hHeld ?_
          rotate_left
          · intro wz hSw; have a0 : wz.cell? ⟨g7, 0, none⟩ = some (.int .i64 xk) := (hSw.bk (b := g7) (t := 34) (cs := #[.int .i64 xk, .string xa, .string xb, .int .i64 xn, .int .i64 xm]) (by simp)).cell 0; have a1 : wz.cell? ⟨g7, 1, none⟩ = some (.string xa) := (hSw.bk (b := g7) (t := 34) (cs := #[.int .i64 xk, .string xa, .string xb, .int .i64 xn, .int .i64 xm]) (by simp)).cell 1; have a2 : wz.cell? ⟨g7, 2, none⟩ = some (.string xb) := (hSw.bk (b := g7) (t := 34) (cs := #[.int .i64 xk, .string xa, .string xb, .int .i64 xn, .int .i64 xm]) (by simp)).cell 2; have b0 : wz.cell? ⟨g8, 0, none⟩ = some (.int .i64 yk) := hSw.head.cell 0; have b1 : wz.cell? ⟨g8, 1, none⟩ = some (.string ya) := hSw.head.cell 1; go_simp; try (with_reducible rfl)
          try simp only [Act.put, List.setIfInBounds_toArray, List.set_cons_zero, List.set_cons_succ, List.getElem_toArray, List.getElem_cons_succ, List.getElem_cons_zero]
          refine take_at (some 90) (i := 2) (v := ?_) rfl rfl (by kernel_rfl) (by kernel_rfl) (by kernel_rfl) (fun _ _ _ h => h) (Or.inl ⟨by kernel_rfl, ?_⟩) hHeld ?_
          rotate_left
          · intro wz hSw; have a0 : wz.cell? ⟨g7, 0, none⟩ = some (.int .i64 xk) := (hSw.bk (b := g7) (t := 34) (cs := #[.int .i64 xk, .string xa, .string xb, .int .i64 xn, .int .i64 xm]) (by simp)).cell 0; have a1 : wz.cell? ⟨g7, 1, none⟩ = some (.string xa) := (hSw.bk (b := g7) (t := 34) (cs := #[.int .i64 xk, .string xa, .string xb, .int .i64 xn, .int .i64 xm]) (by simp)).cell 1; have a2 : wz.cell? ⟨g7, 2, none⟩ = some (.string xb) := (hSw.bk (b := g7) (t := 34) (cs := #[.int .i64 xk, .string xa, .string xb, .int .i64 xn, .int .i64 xm]) (by simp)).cell 2; have b0 : wz.cell? ⟨g8, 0, none⟩ = some (.int .i64 yk) := hSw.head.cell 0; have b1 : wz.cell? ⟨g8, 1, none⟩ = some (.string ya) := hSw.head.cell 1; go_simp; try (with_reducible rfl)
          try simp only [Act.put, List.setIfInBounds_toArray, List.set_cons_zero, List.set_cons_succ, List.getElem_toArray, List.getElem_cons_succ, List.getElem_cons_zero]
          refine take_at (some 91) (i := 3) (v := ?_) rfl rfl (by kernel_rfl) (by kernel_rfl) (by kernel_rfl) (fun _ _ _ h => h) (Or.inl ⟨by kernel_rfl, ?_⟩) hHeld ?_
          rotate_left
          · intro wz hSw; go_simp; try (with_reducible rfl)
          try simp only [Act.put, List.setIfInBounds_toArray, List.set_cons_zero, List.set_cons_succ, List.getElem_toArray, List.getElem_cons_succ, List.getElem_cons_zero]
          refine take_at (some 92) (i := 4) (v := undef) rfl rfl (by kernel_rfl) (by kernel_rfl) (by kernel_rfl) (fun _ _ _ h => h) (Or.inr ⟨by kernel_rfl, rfl⟩) hHeld ?_
          try simp only [Act.put, List.setIfInBounds_toArray, List.set_cons_zero, List.set_cons_succ, List.getElem_toArray, List.getElem_cons_succ, List.getElem_cons_zero]
          refine take_at (some 93) (i := 5) (v := undef) rfl rfl (by kernel_rfl) (by kernel_rfl) (by kernel_rfl) (fun _ _ _ h => h) (Or.inr ⟨by kernel_rfl, rfl⟩) hHeld ?_
          try simp only [Act.put, List.setIfInBounds_toArray, List.set_cons_zero, List.set_cons_succ, List.getElem_toArray, List.getElem_cons_succ, List.getElem_cons_zero]
          refine take_at (some 94) (i := 6) (v := undef) rfl rfl (by kernel_rfl) (by kernel_rfl) (by kernel_rfl) (fun _ _ _ h => h) (Or.inr ⟨by kernel_rfl, rfl⟩) hHeld ?_
          try simp only [Act.put, List.setIfInBounds_toArray, List.set_cons_zero, List.set_cons_succ, List.getElem_toArray, List.getElem_cons_succ, List.getElem_cons_zero]
          refine take_at (some 95) (i := 7) (v := ?_) rfl rfl (by kernel_rfl) (by kernel_rfl) (by kernel_rfl) (fun _ _ _ h => h) (Or.inl ⟨by kernel_rfl, ?_⟩) hHeld ?_
          rotate_left
          · intro wz hSw; go_simp; try (with_reducible rfl)
          try simp only [Act.put, List.setIfInBounds_toArray, List.set_cons_zero, List.set_cons_succ, List.getElem_toArray, List.getElem_cons_succ, List.getElem_cons_zero]
          refine take_at (some 96) (i := 8) (v := ?_) rfl rfl (by kernel_rfl) (by kernel_rfl) (by kernel_rfl) (fun _ _ _ h => h) (Or.inl ⟨by kernel_rfl, ?_⟩) hHeld ?_
          rotate_left
          · intro wz hSw; go_simp; try (with_reducible rfl)
          try simp only [Act.put, List.setIfInBounds_toArray, List.set_cons_zero, List.set_cons_succ, List.getElem_toArray, List.getElem_cons_succ, List.getElem_cons_zero]
          refine take_at (some 97) (i := 9) (v := undef) rfl rfl (by kernel_rfl) (by kernel_rfl) (by kernel_rfl) (fun _ _ _ h => h) (Or.inr ⟨by kernel_rfl, rfl⟩) hHeld ?_
          try simp only [Act.put, List.setIfInBounds_toArray, List.set_cons_zero, List.set_cons_succ, List.getElem_toArray, List.getElem_cons_succ, List.getElem_cons_zero]
          refine take_at (some 98) (i := 10) (v := undef) rfl rfl (by kernel_rfl) (by kernel_rfl) (by kernel_rfl) (fun _ _ _ h => h) (Or.inr ⟨by kernel_rfl, rfl⟩) hHeld ?_
          try simp only [Act.put, List.setIfInBounds_toArray, List.set_cons_zero, List.set_cons_succ, List.getElem_toArray, List.getElem_cons_succ, List.getElem_cons_zero]
          refine take_at (some 99) (i := 11) (v := undef) rfl rfl (by kernel_rfl) (by kernel_rfl) (by kernel_rfl) (fun _ _ _ h => h) (Or.inr ⟨by kernel_rfl, rfl⟩) hHeld ?_
          try simp only [Act.put, List.setIfInBounds_toArray, List.set_cons_zero, List.set_cons_succ, List.getElem_toArray, List.getElem_cons_succ, List.getElem_cons_zero]
          refine take_at (some 100) (i := 12) (v := undef) rfl rfl (by kernel_rfl) (by kernel_rfl) (by kernel_rfl) (fun _ _ _ h => h) (Or.inr ⟨by kernel_rfl, rfl⟩) hHeld ?_
          try simp only [Act.put, List.setIfInBounds_toArray, List.set_cons_zero, List.set_cons_succ, List.getElem_toArray, List.getElem_cons_succ, List.getElem_cons_zero]
          refine take_at (some 101) (i := 13) (v := undef) rfl rfl (by kernel_rfl) (by kernel_rfl) (by kernel_rfl) (fun _ _ _ h => h) (Or.inr ⟨by kernel_rfl, rfl⟩) hHeld ?_
          try simp only [Act.put, List.setIfInBounds_toArray, List.set_cons_zero, List.set_cons_succ, List.getElem_toArray, List.getElem_cons_succ, List.getElem_cons_zero]
          refine take_at (some 102) (i := 14) (v := undef) rfl rfl (by kernel_rfl) (by kernel_rfl) (by kernel_rfl) (fun _ _ _ h => h) (Or.inr ⟨by kernel_rfl, rfl⟩) hHeld ?_
          try simp only [Act.put, List.setIfInBounds_toArray, List.set_cons_zero, List.set_cons_succ, List.getElem_toArray, List.getElem_cons_succ, List.getElem_cons_zero]
          refine take_at (some 103) (i := 15) (v := undef) rfl rfl (by kernel_rfl) (by kernel_rfl) (by kernel_rfl) (fun _ _ _ h => h) (Or.inr ⟨by kernel_rfl, rfl⟩) hHeld ?_
          try simp only [Act.put, List.setIfInBounds_toArray, List.set_cons_zero, List.set_cons_succ, List.getElem_toArray, List.getElem_cons_succ, List.getElem_cons_zero]
          refine take_at (some 104) (i := 16) (v := undef) rfl rfl (by kernel_rfl) (by kernel_rfl) (by kernel_rfl) (fun _ _ _ h => h) (Or.inr ⟨by kernel_rfl, rfl⟩) hHeld ?_
          try simp only [Act.put, List.setIfInBounds_toArray, List.set_cons_zero, List.set_cons_succ, List.getElem_toArray, List.getElem_cons_succ, List.getElem_cons_zero]
          refine take_at (some 105) (i := 17) (v := undef) rfl rfl (by kernel_rfl) (by kernel_rfl) (by kernel_rfl) (fun _ _ _ h => h) (Or.inr ⟨by kernel_rfl, rfl⟩) hHeld ?_
          try simp only [Act.put, List.setIfInBounds_toArray, List.set_cons_zero, List.set_cons_succ, List.getElem_toArray, List.getElem_cons_succ, List.getElem_cons_zero]
          refine take_at (some 106) (i := 18) (v := undef) rfl rfl (by kernel_rfl) (by kernel_rfl) (by kernel_rfl) (fun _ _ _ h => h) (Or.inr ⟨by kernel_rfl, rfl⟩) hHeld ?_
          try simp only [Act.put, List.setIfInBounds_toArray, List.set_cons_zero, List.set_cons_succ, List.getElem_toArray, List.getElem_cons_succ, List.getElem_cons_zero]
          refine take_at (some 107) (i := 19) (v := ?_) rfl rfl (by kernel_rfl) (by kernel_rfl) (by kernel_rfl) (fun _ _ _ h => h) (Or.inl ⟨by kernel_rfl, ?_⟩) hHeld ?_
          rotate_left
          · intro wz hSw; go_simp; try (with_reducible rfl)
          try simp only [Act.put, List.setIfInBounds_toArray, List.set_cons_zero, List.set_cons_succ, List.getElem_toArray, List.getElem_cons_succ, List.getElem_cons_zero]
          refine take_at (some 108) (i := 20) (v := ?_) rfl rfl (by kernel_rfl) (by kernel_rfl) (by kernel_rfl) (fun _ _ _ h => h) (Or.inl ⟨by kernel_rfl, ?_⟩) hHeld ?_
          rotate_left
          · intro wz hSw; go_simp; try (with_reducible rfl)
          try simp only [Act.put, List.setIfInBounds_toArray, List.set_cons_zero, List.set_cons_succ, List.getElem_toArray, List.getElem_cons_succ, List.getElem_cons_zero]
          refine take_at (some 109) (i := 21) (v := undef) rfl rfl (by kernel_rfl) (by kernel_rfl) (by kernel_rfl) (fun _ _ _ h => h) (Or.inr ⟨by kernel_rfl, rfl⟩) hHeld ?_
          try simp only [Act.put, List.setIfInBounds_toArray, List.set_cons_zero, List.set_cons_succ, List.getElem_toArray, List.getElem_cons_succ, List.getElem_cons_zero]
          refine take_at (some 110) (i := 22) (v := undef) rfl rfl (by kernel_rfl) (by kernel_rfl) (by kernel_rfl) (fun _ _ _ h => h) (Or.inr ⟨by kernel_rfl, rfl⟩) hHeld ?_
          try simp only [Act.put, List.setIfInBounds_toArray, List.set_cons_zero, List.set_cons_succ, List.getElem_toArray, List.getElem_cons_succ, List.getElem_cons_zero]
          refine take_at (some 111) (i := 23) (v := undef) rfl rfl (by kernel_rfl) (by kernel_rfl) (by kernel_rfl) (fun _ _ _ h => h) (Or.inr ⟨by kernel_rfl, rfl⟩) hHeld ?_
          try simp only [Act.put, List.setIfInBounds_toArray, List.set_cons_zero, List.set_cons_succ, List.getElem_toArray, List.getElem_cons_succ, List.getElem_cons_zero]
          refine take_at (some 112) (i := 24) (v := ?_) rfl rfl (by kernel_rfl) (by kernel_rfl) (by kernel_rfl) (fun _ _ _ h => h) (Or.inl ⟨by kernel_rfl, ?_⟩) hHeld ?_
          rotate_left
          · intro wz hSw; go_simp; try (with_reducible rfl)
          try simp only [Act.put, List.setIfInBounds_toArray, List.set_cons_zero, List.set_cons_succ, List.getElem_toArray, List.getElem_cons_succ, List.getElem_cons_zero]
          refine take_at (some 113) (i := 25) (v := ?_) rfl rfl (by kernel_rfl) (by kernel_rfl) (by kernel_rfl) (fun _ _ _ h => h) (Or.inl ⟨by kernel_rfl, ?_⟩) hHeld ?_
          rotate_left
          · intro wz hSw; go_simp; try (with_reducible rfl)
          try simp only [Act.put, List.setIfInBounds_toArray, List.set_cons_zero, List.set_cons_succ, List.getElem_toArray, List.getElem_cons_succ, List.getElem_cons_zero]
          refine take_at (some 114) (i := 26) (v := undef) rfl rfl (by kernel_rfl) (by kernel_rfl) (by kernel_rfl) (fun _ _ _ h => h) (Or.inr ⟨by kernel_rfl, rfl⟩) hHeld ?_
          try simp only [Act.put, List.setIfInBounds_toArray, List.set_cons_zero, List.set_cons_succ, List.getElem_toArray, List.getElem_cons_succ, List.getElem_cons_zero]
          refine take_at (some 115) (i := 27) (v := undef) rfl rfl (by kernel_rfl) (by kernel_rfl) (by kernel_rfl) (fun _ _ _ h => h) (Or.inr ⟨by kernel_rfl, rfl⟩) hHeld ?_
          try simp only [Act.put, List.setIfInBounds_toArray, List.set_cons_zero, List.set_cons_succ, List.getElem_toArray, List.getElem_cons_succ, List.getElem_cons_zero]
          refine take_at (some 116) (i := 28) (v := undef) rfl rfl (by kernel_rfl) (by kernel_rfl) (by kernel_rfl) (fun _ _ _ h => h) (Or.inr ⟨by kernel_rfl, rfl⟩) hHeld ?_
          try simp only [Act.put, List.setIfInBounds_toArray, List.set_cons_zero, List.set_cons_succ, List.getElem_toArray, List.getElem_cons_succ, List.getElem_cons_zero]
          refine take_at (some 117) (i := 29) (v := undef) rfl rfl (by kernel_rfl) (by kernel_rfl) (by kernel_rfl) (fun _ _ _ h => h) (Or.inr ⟨by kernel_rfl, rfl⟩) hHeld ?_
          try simp only [Act.put, List.setIfInBounds_toArray, List.set_cons_zero, List.set_cons_succ, List.getElem_toArray, List.getElem_cons_succ, List.getElem_cons_zero]
          refine take_at (some 118) (i := 30) (v := undef) rfl rfl (by kernel_rfl) (by kernel_rfl) (by kernel_rfl) (fun _ _ _ h => h) (Or.inr ⟨by kernel_rfl, rfl⟩) hHeld ?_
          try simp only [Act.put, List.setIfInBounds_toArray, List.set_cons_zero, List.set_cons_succ, List.getElem_toArray, List.getElem_cons_succ, List.getElem_cons_zero]
          refine take_at (some 119) (i := 31) (v := undef) rfl rfl (by kernel_rfl) (by kernel_rfl) (by kernel_rfl) (fun _ _ _ h => h) (Or.inr ⟨by kernel_rfl, rfl⟩) hHeld ?_
          try simp only [Act.put, List.setIfInBounds_toArray, List.set_cons_zero, List.set_cons_succ, List.getElem_toArray, List.getElem_cons_succ, List.getElem_cons_zero]
          refine take_at (some 120) (i := 32) (v := undef) rfl rfl (by kernel_rfl) (by kernel_rfl) (by kernel_rfl) (fun _ _ _ h => h) (Or.inr ⟨by kernel_rfl, rfl⟩) hHeld ?_
          try simp only [Act.put, List.setIfInBounds_toArray, List.set_cons_zero, List.set_cons_succ, List.getElem_toArray, List.getElem_cons_succ, List.getElem_cons_zero]
          refine take_at (some 121) (i := 33) (v := undef) rfl rfl (by kernel_rfl) (by kernel_rfl) (by kernel_rfl) (fun _ _ _ h => h) (Or.inr ⟨by kernel_rfl, rfl⟩) hHeld ?_
          try simp only [Act.put, List.setIfInBounds_toArray, List.set_cons_zero, List.set_cons_succ, List.getElem_toArray, List.getElem_cons_succ, List.getElem_cons_zero]
          refine take_at (some 122) (i := 34) (v := undef) rfl rfl (by kernel_rfl) (by kernel_rfl) (by kernel_rfl) (fun _ _ _ h => h) (Or.inr ⟨by kernel_rfl, rfl⟩) hHeld ?_
          try simp only [Act.put, List.setIfInBounds_toArray, List.set_cons_zero, List.set_cons_succ, List.getElem_toArray, List.getElem_cons_succ, List.getElem_cons_zero]
          refine take_at (some 123) (i := 35) (v := undef) rfl rfl (by kernel_rfl) (by kernel_rfl) (by kernel_rfl) (fun _ _ _ h => h) (Or.inr ⟨by kernel_rfl, rfl⟩) hHeld ?_
          try simp only [Act.put, List.setIfInBounds_toArray, List.set_cons_zero, List.set_cons_succ, List.getElem_toArray, List.getElem_cons_succ, List.getElem_cons_zero]
          refine take_at (some 124) (i := 36) (v := ?_) rfl rfl (by kernel_rfl) (by kernel_rfl) (by kernel_rfl) (fun _ _ _ h => h) (Or.inl ⟨by kernel_rfl, ?_⟩) hHeld ?_
          rotate_left
          · intro wz hSw; go_simp; try (with_reducible rfl)
          try simp only [Act.put, List.setIfInBounds_toArray, List.set_cons_zero, List.set_cons_succ, List.getElem_toArray, List.getElem_cons_succ, List.getElem_cons_zero]
          refine take_at (some 14) (i := 37) (v := ?_) rfl rfl (by kernel_rfl) (by kernel_rfl) (by kernel_rfl) (fun _ _ _ h => h) (Or.inl ⟨by kernel_rfl, ?_⟩) hHeld ?_
          rotate_left
          · intro wz hSw; go_simp; try (with_reducible rfl)
          try simp only [Act.put, List.setIfInBounds_toArray, List.set_cons_zero, List.set_cons_succ, List.getElem_toArray, List.getElem_cons_succ, List.getElem_cons_zero]
          refine wpAnyH_done (by kernel_rfl) ?_ _
          refine gen_qS (fun y => Ss u2 mb [] sb v s2 [(g8, 34, #[.int .i64 yk, .string ya, .string yb, .int .i64 yn, .int .i64 ym]), (g7, 34, #[.int .i64 xk, .string xa, .string xb, .int .i64 xn, .int .i64 xm])] y) hHeld (fun yz hyz => ?_)
          have HYZ := Lib.hid hyz
          clear hyz hHeld HY9
          have a1 : yz.cell? ⟨g7, 1, none⟩ = some (.string xa) := (HYZ.out.bk (b := g7) (t := 34) (cs := #[.int .i64 xk, .string xa, .string xb, .int .i64 xn, .int .i64 xm]) (by simp)).cell 1
          go_wp2
          go_ret
          exact ⟨rfl, HSB.out.low HYZ.out⟩
        subst hk1
        by_cases hk3 : yk = 3
        rotate_left
        · have hk4 : (yk == 3) = false := beq_eq_false_iff_ne.2 hk3
          rw [hk4] at HKE
          obtain rfl : kn = false := HKE.out
          obtain rfl := HW0.out rfl
          have hem : eS.toList.isEmpty = true := by unfold eS; rw [ByteArray.toList_eq]; rfl
          have hem2 : (eS.toList == []) = true := by unfold eS; rw [ByteArray.toList_eq]; rfl
          try simp only [List.cons_append, List.nil_append]
          refine wp_region_held_drew (S := fun wz => Ss u2 mb [] sb v s2 [(g8, 34, #[.int .i64 yk, .string ya, .string yb, .int .i64 yn, .int .i64 ym]), (g7, 34, #[.int .i64 1, .string xa, .string xb, .int .i64 xn, .int .i64 xm])] wz) (by kernel_rfl) (HY9.out.on (Below.refl _ _).drew) (fun hHeld => ?_)
          refine take_at (some 88) (i := 0) (v := ?_) rfl rfl (by kernel_rfl) (by kernel_rfl) (by kernel_rfl) (fun _ _ _ h => h) (Or.inl ⟨by kernel_rfl, ?_⟩) hHeld ?_
          rotate_left
          · intro wz hSw; have a0 : wz.cell? ⟨g7, 0, none⟩ = some (.int .i64 1) := (hSw.bk (b := g7) (t := 34) (cs := #[.int .i64 1, .string xa, .string xb, .int .i64 xn, .int .i64 xm]) (by simp)).cell 0; have a1 : wz.cell? ⟨g7, 1, none⟩ = some (.string xa) := (hSw.bk (b := g7) (t := 34) (cs := #[.int .i64 1, .string xa, .string xb, .int .i64 xn, .int .i64 xm]) (by simp)).cell 1; have a2 : wz.cell? ⟨g7, 2, none⟩ = some (.string xb) := (hSw.bk (b := g7) (t := 34) (cs := #[.int .i64 1, .string xa, .string xb, .int .i64 xn, .int .i64 xm]) (by simp)).cell 2; have b0 : wz.cell? ⟨g8, 0, none⟩ = some (.int .i64 yk) := hSw.head.cell 0; have b1 : wz.cell? ⟨g8, 1, none⟩ = some (.string ya) := hSw.head.cell 1; go_simp; try (with_reducible rfl)
          try simp only [Act.put, List.setIfInBounds_toArray, List.set_cons_zero, List.set_cons_succ, List.getElem_toArray, List.getElem_cons_succ, List.getElem_cons_zero]
          refine take_at (some 89) (i := 1) (v := ?_) rfl rfl (by kernel_rfl) (by kernel_rfl) (by kernel_rfl) (fun _ _ _ h => h) (Or.inl ⟨by kernel_rfl, ?_⟩) hHeld ?_
          rotate_left
          · intro wz hSw; have a0 : wz.cell? ⟨g7, 0, none⟩ = some (.int .i64 1) := (hSw.bk (b := g7) (t := 34) (cs := #[.int .i64 1, .string xa, .string xb, .int .i64 xn, .int .i64 xm]) (by simp)).cell 0; have a1 : wz.cell? ⟨g7, 1, none⟩ = some (.string xa) := (hSw.bk (b := g7) (t := 34) (cs := #[.int .i64 1, .string xa, .string xb, .int .i64 xn, .int .i64 xm]) (by simp)).cell 1; have a2 : wz.cell? ⟨g7, 2, none⟩ = some (.string xb) := (hSw.bk (b := g7) (t := 34) (cs := #[.int .i64 1, .string xa, .string xb, .int .i64 xn, .int .i64 xm]) (by simp)).cell 2; have b0 : wz.cell? ⟨g8, 0, none⟩ = some (.int .i64 yk) := hSw.head.cell 0; have b1 : wz.cell? ⟨g8, 1, none⟩ = some (.string ya) := hSw.head.cell 1; go_simp; try (with_reducible rfl)
          try simp only [Act.put, List.setIfInBounds_toArray, List.set_cons_zero, List.set_cons_succ, List.getElem_toArray, List.getElem_cons_succ, List.getElem_cons_zero]
          refine take_at (some 90) (i := 2) (v := ?_) rfl rfl (by kernel_rfl) (by kernel_rfl) (by kernel_rfl) (fun _ _ _ h => h) (Or.inl ⟨by kernel_rfl, ?_⟩) hHeld ?_
          rotate_left
          · intro wz hSw; have a0 : wz.cell? ⟨g7, 0, none⟩ = some (.int .i64 1) := (hSw.bk (b := g7) (t := 34) (cs := #[.int .i64 1, .string xa, .string xb, .int .i64 xn, .int .i64 xm]) (by simp)).cell 0; have a1 : wz.cell? ⟨g7, 1, none⟩ = some (.string xa) := (hSw.bk (b := g7) (t := 34) (cs := #[.int .i64 1, .string xa, .string xb, .int .i64 xn, .int .i64 xm]) (by simp)).cell 1; have a2 : wz.cell? ⟨g7, 2, none⟩ = some (.string xb) := (hSw.bk (b := g7) (t := 34) (cs := #[.int .i64 1, .string xa, .string xb, .int .i64 xn, .int .i64 xm]) (by simp)).cell 2; have b0 : wz.cell? ⟨g8, 0, none⟩ = some (.int .i64 yk) := hSw.head.cell 0; have b1 : wz.cell? ⟨g8, 1, none⟩ = some (.string ya) := hSw.head.cell 1; go_simp; try (with_reducible rfl)
          try simp only [Act.put, List.setIfInBounds_toArray, List.set_cons_zero, List.set_cons_succ, List.getElem_toArray, List.getElem_cons_succ, List.getElem_cons_zero]
          refine take_at (some 91) (i := 3) (v := ?_) rfl rfl (by kernel_rfl) (by kernel_rfl) (by kernel_rfl) (fun _ _ _ h => h) (Or.inl ⟨by kernel_rfl, ?_⟩) hHeld ?_
          rotate_left
          · intro wz hSw; go_simp; try (with_reducible rfl)
          try simp only [Act.put, List.setIfInBounds_toArray, List.set_cons_zero, List.set_cons_succ, List.getElem_toArray, List.getElem_cons_succ, List.getElem_cons_zero]
          refine take_at (some 92) (i := 4) (v := ?_) rfl rfl (by kernel_rfl) (by kernel_rfl) (by kernel_rfl) (fun _ _ _ h => h) (Or.inl ⟨by kernel_rfl, ?_⟩) hHeld ?_
          rotate_left
          · intro wz hSw; have a0 : wz.cell? ⟨g7, 0, none⟩ = some (.int .i64 1) := (hSw.bk (b := g7) (t := 34) (cs := #[.int .i64 1, .string xa, .string xb, .int .i64 xn, .int .i64 xm]) (by simp)).cell 0; have a1 : wz.cell? ⟨g7, 1, none⟩ = some (.string xa) := (hSw.bk (b := g7) (t := 34) (cs := #[.int .i64 1, .string xa, .string xb, .int .i64 xn, .int .i64 xm]) (by simp)).cell 1; have a2 : wz.cell? ⟨g7, 2, none⟩ = some (.string xb) := (hSw.bk (b := g7) (t := 34) (cs := #[.int .i64 1, .string xa, .string xb, .int .i64 xn, .int .i64 xm]) (by simp)).cell 2; have b0 : wz.cell? ⟨g8, 0, none⟩ = some (.int .i64 yk) := hSw.head.cell 0; have b1 : wz.cell? ⟨g8, 1, none⟩ = some (.string ya) := hSw.head.cell 1; go_simp; try (with_reducible rfl)
          try simp only [Act.put, List.setIfInBounds_toArray, List.set_cons_zero, List.set_cons_succ, List.getElem_toArray, List.getElem_cons_succ, List.getElem_cons_zero]
          refine take_at (some 93) (i := 5) (v := ?_) rfl rfl (by kernel_rfl) (by kernel_rfl) (by kernel_rfl) (fun _ _ _ h => h) (Or.inl ⟨by kernel_rfl, ?_⟩) hHeld ?_
          rotate_left
          · intro wz hSw; have a0 : wz.cell? ⟨g7, 0, none⟩ = some (.int .i64 1) := (hSw.bk (b := g7) (t := 34) (cs := #[.int .i64 1, .string xa, .string xb, .int .i64 xn, .int .i64 xm]) (by simp)).cell 0; have a1 : wz.cell? ⟨g7, 1, none⟩ = some (.string xa) := (hSw.bk (b := g7) (t := 34) (cs := #[.int .i64 1, .string xa, .string xb, .int .i64 xn, .int .i64 xm]) (by simp)).cell 1; have a2 : wz.cell? ⟨g7, 2, none⟩ = some (.string xb) := (hSw.bk (b := g7) (t := 34) (cs := #[.int .i64 1, .string xa, .string xb, .int .i64 xn, .int .i64 xm]) (by simp)).cell 2; have b0 : wz.cell? ⟨g8, 0, none⟩ = some (.int .i64 yk) := hSw.head.cell 0; have b1 : wz.cell? ⟨g8, 1, none⟩ = some (.string ya) := hSw.head.cell 1; go_simp; try (with_reducible rfl)
          try simp only [Act.put, List.setIfInBounds_toArray, List.set_cons_zero, List.set_cons_succ, List.getElem_toArray, List.getElem_cons_succ, List.getElem_cons_zero]
          refine take_at (some 94) (i := 6) (v := ?_) rfl rfl (by kernel_rfl) (by kernel_rfl) (by kernel_rfl) (fun _ _ _ h => h) (Or.inl ⟨by kernel_rfl, ?_⟩) hHeld ?_
          rotate_left
          · intro wz hSw; have a0 : wz.cell? ⟨g7, 0, none⟩ = some (.int .i64 1) := (hSw.bk (b := g7) (t := 34) (cs := #[.int .i64 1, .string xa, .string xb, .int .i64 xn, .int .i64 xm]) (by simp)).cell 0; have a1 : wz.cell? ⟨g7, 1, none⟩ = some (.string xa) := (hSw.bk (b := g7) (t := 34) (cs := #[.int .i64 1, .string xa, .string xb, .int .i64 xn, .int .i64 xm]) (by simp)).cell 1; have a2 : wz.cell? ⟨g7, 2, none⟩ = some (.string xb) := (hSw.bk (b := g7) (t := 34) (cs := #[.int .i64 1, .string xa, .string xb, .int .i64 xn, .int .i64 xm]) (by simp)).cell 2; have b0 : wz.cell? ⟨g8, 0, none⟩ = some (.int .i64 yk) := hSw.head.cell 0; have b1 : wz.cell? ⟨g8, 1, none⟩ = some (.string ya) := hSw.head.cell 1; go_simp; try (with_reducible rfl)
          try simp only [Act.put, List.setIfInBounds_toArray, List.set_cons_zero, List.set_cons_succ, List.getElem_toArray, List.getElem_cons_succ, List.getElem_cons_zero]
          refine take_at (some 95) (i := 7) (v := ?_) rfl rfl (by kernel_rfl) (by kernel_rfl) (by kernel_rfl) (fun _ _ _ h => h) (Or.inl ⟨by kernel_rfl, ?_⟩) hHeld ?_
          rotate_left
          · intro wz hSw; go_simp; try (with_reducible rfl)
          try simp only [Act.put, List.setIfInBounds_toArray, List.set_cons_zero, List.set_cons_succ, List.getElem_toArray, List.getElem_cons_succ, List.getElem_cons_zero]
          refine take_at (some 96) (i := 8) (v := ?_) rfl rfl (by kernel_rfl) (by kernel_rfl) (by kernel_rfl) (fun _ _ _ h => h) (Or.inl ⟨by kernel_rfl, ?_⟩) hHeld ?_
          rotate_left
          · intro wz hSw; go_simp; try (with_reducible rfl)
          try simp only [Act.put, List.setIfInBounds_toArray, List.set_cons_zero, List.set_cons_succ, List.getElem_toArray, List.getElem_cons_succ, List.getElem_cons_zero]
          refine take_at (some 97) (i := 9) (v := undef) rfl rfl (by kernel_rfl) (by kernel_rfl) (by kernel_rfl) (fun _ _ _ h => h) (Or.inr ⟨by kernel_rfl, rfl⟩) hHeld ?_
          try simp only [Act.put, List.setIfInBounds_toArray, List.set_cons_zero, List.set_cons_succ, List.getElem_toArray, List.getElem_cons_succ, List.getElem_cons_zero]
          refine take_at (some 98) (i := 10) (v := undef) rfl rfl (by kernel_rfl) (by kernel_rfl) (by kernel_rfl) (fun _ _ _ h => h) (Or.inr ⟨by kernel_rfl, rfl⟩) hHeld ?_
          try simp only [Act.put, List.setIfInBounds_toArray, List.set_cons_zero, List.set_cons_succ, List.getElem_toArray, List.getElem_cons_succ, List.getElem_cons_zero]
          refine take_at (some 99) (i := 11) (v := undef) rfl rfl (by kernel_rfl) (by kernel_rfl) (by kernel_rfl) (fun _ _ _ h => h) (Or.inr ⟨by kernel_rfl, rfl⟩) hHeld ?_
          try simp only [Act.put, List.setIfInBounds_toArray, List.set_cons_zero, List.set_cons_succ, List.getElem_toArray, List.getElem_cons_succ, List.getElem_cons_zero]
          refine take_at (some 100) (i := 12) (v := undef) rfl rfl (by kernel_rfl) (by kernel_rfl) (by kernel_rfl) (fun _ _ _ h => h) (Or.inr ⟨by kernel_rfl, rfl⟩) hHeld ?_
          try simp only [Act.put, List.setIfInBounds_toArray, List.set_cons_zero, List.set_cons_succ, List.getElem_toArray, List.getElem_cons_succ, List.getElem_cons_zero]
          refine take_at (some 101) (i := 13) (v := undef) rfl rfl (by kernel_rfl) (by kernel_rfl) (by kernel_rfl) (fun _ _ _ h => h) (Or.inr ⟨by kernel_rfl, rfl⟩) hHeld ?_
          try simp only [Act.put, List.setIfInBounds_toArray, List.set_cons_zero, List.set_cons_succ, List.getElem_toArray, List.getElem_cons_succ, List.getElem_cons_zero]
          refine take_at (some 102) (i := 14) (v := undef) rfl rfl (by kernel_rfl) (by kernel_rfl) (by kernel_rfl) (fun _ _ _ h => h) (Or.inr ⟨by kernel_rfl, rfl⟩) hHeld ?_
          try simp only [Act.put, List.setIfInBounds_toArray, List.set_cons_zero, List.set_cons_succ, List.getElem_toArray, List.getElem_cons_succ, List.getElem_cons_zero]
          refine take_at (some 103) (i := 15) (v := undef) rfl rfl (by kernel_rfl) (by kernel_rfl) (by kernel_rfl) (fun _ _ _ h => h) (Or.inr ⟨by kernel_rfl, rfl⟩) hHeld ?_
          try simp only [Act.put, List.setIfInBounds_toArray, List.set_cons_zero, List.set_cons_succ, List.getElem_toArray, List.getElem_cons_succ, List.getElem_cons_zero]
          refine take_at (some 104) (i := 16) (v := undef) rfl rfl (by kernel_rfl) (by kernel_rfl) (by kernel_rfl) (fun _ _ _ h => h) (Or.inr ⟨by kernel_rfl, rfl⟩) hHeld ?_
          try simp only [Act.put, List.setIfInBounds_toArray, List.set_cons_zero, List.set_cons_succ, List.getElem_toArray, List.getElem_cons_succ, List.getElem_cons_zero]
          refine take_at (some 105) (i := 17) (v := undef) rfl rfl (by kernel_rfl) (by kernel_rfl) (by kernel_rfl) (fun _ _ _ h => h) (Or.inr ⟨by kernel_rfl, rfl⟩) hHeld ?_
          try simp only [Act.put, List.setIfInBounds_toArray, List.set_cons_zero, List.set_cons_succ, List.getElem_toArray, List.getElem_cons_succ, List.getElem_cons_zero]
          refine take_at (some 106) (i := 18) (v := undef) rfl rfl (by kernel_rfl) (by kernel_rfl) (by kernel_rfl) (fun _ _ _ h => h) (Or.inr ⟨by kernel_rfl, rfl⟩) hHeld ?_
          try simp only [Act.put, List.setIfInBounds_toArray, List.set_cons_zero, List.set_cons_succ, List.getElem_toArray, List.getElem_cons_succ, List.getElem_cons_zero]
          refine take_at (some 107) (i := 19) (v := ?_) rfl rfl (by kernel_rfl) (by kernel_rfl) (by kernel_rfl) (fun _ _ _ h => h) (Or.inl ⟨by kernel_rfl, ?_⟩) hHeld ?_
          rotate_left
          · intro wz hSw; go_simp; try (with_reducible rfl)
          try simp only [Act.put, List.setIfInBounds_toArray, List.set_cons_zero, List.set_cons_succ, List.getElem_toArray, List.getElem_cons_succ, List.getElem_cons_zero]
          refine take_at (some 108) (i := 20) (v := ?_) rfl rfl (by kernel_rfl) (by kernel_rfl) (by kernel_rfl) (fun _ _ _ h => h) (Or.inl ⟨by kernel_rfl, ?_⟩) hHeld ?_
          rotate_left
          · intro wz hSw; go_simp; try (with_reducible rfl)
          try simp only [Act.put, List.setIfInBounds_toArray, List.set_cons_zero, List.set_cons_succ, List.getElem_toArray, List.getElem_cons_succ, List.getElem_cons_zero]
          refine take_at (some 109) (i := 21) (v := undef) rfl rfl (by kernel_rfl) (by kernel_rfl) (by kernel_rfl) (fun _ _ _ h => h) (Or.inr ⟨by kernel_rfl, rfl⟩) hHeld ?_
          try simp only [Act.put, List.setIfInBounds_toArray, List.set_cons_zero, List.set_cons_succ, List.getElem_toArray, List.getElem_cons_succ, List.getElem_cons_zero]
          refine take_at (some 110) (i := 22) (v := undef) rfl rfl (by kernel_rfl) (by kernel_rfl) (by kernel_rfl) (fun _ _ _ h => h) (Or.inr ⟨by kernel_rfl, rfl⟩) hHeld ?_
          try simp only [Act.put, List.setIfInBounds_toArray, List.set_cons_zero, List.set_cons_succ, List.getElem_toArray, List.getElem_cons_succ, List.getElem_cons_zero]
          refine take_at (some 111) (i := 23) (v := undef) rfl rfl (by kernel_rfl) (by kernel_rfl) (by kernel_rfl) (fun _ _ _ h => h) (Or.inr ⟨by kernel_rfl, rfl⟩) hHeld ?_
          try simp only [Act.put, List.setIfInBounds_toArray, List.set_cons_zero, List.set_cons_succ, List.getElem_toArray, List.getElem_cons_succ, List.getElem_cons_zero]
          refine take_at (some 112) (i := 24) (v := ?_) rfl rfl (by kernel_rfl) (by kernel_rfl) (by kernel_rfl) (fun _ _ _ h => h) (Or.inl ⟨by kernel_rfl, ?_⟩) hHeld ?_
          rotate_left
          · intro wz hSw; go_simp; try (with_reducible rfl)
          try simp only [Act.put, List.setIfInBounds_toArray, List.set_cons_zero, List.set_cons_succ, List.getElem_toArray, List.getElem_cons_succ, List.getElem_cons_zero]
          refine take_at (some 113) (i := 25) (v := ?_) rfl rfl (by kernel_rfl) (by kernel_rfl) (by kernel_rfl) (fun _ _ _ h => h) (Or.inl ⟨by kernel_rfl, ?_⟩) hHeld ?_
          rotate_left
          · intro wz hSw; go_simp; try (with_reducible rfl)
          try simp only [Act.put, List.setIfInBounds_toArray, List.set_cons_zero, List.set_cons_succ, List.getElem_toArray, List.getElem_cons_succ, List.getElem_cons_zero]
          refine take_at (some 114) (i := 26) (v := undef) rfl rfl (by kernel_rfl) (by kernel_rfl) (by kernel_rfl) (fun _ _ _ h => h) (Or.inr ⟨by kernel_rfl, rfl⟩) hHeld ?_
          try simp only [Act.put, List.setIfInBounds_toArray, List.set_cons_zero, List.set_cons_succ, List.getElem_toArray, List.getElem_cons_succ, List.getElem_cons_zero]
          refine take_at (some 115) (i := 27) (v := undef) rfl rfl (by kernel_rfl) (by kernel_rfl) (by kernel_rfl) (fun _ _ _ h => h) (Or.inr ⟨by kernel_rfl, rfl⟩) hHeld ?_
          try simp only [Act.put, List.setIfInBounds_toArray, List.set_cons_zero, List.set_cons_succ, List.getElem_toArray, List.getElem_cons_succ, List.getElem_cons_zero]
          refine take_at (some 116) (i := 28) (v := undef) rfl rfl (by kernel_rfl) (by kernel_rfl) (by kernel_rfl) (fun _ _ _ h => h) (Or.inr ⟨by kernel_rfl, rfl⟩) hHeld ?_
          try simp only [Act.put, List.setIfInBounds_toArray, List.set_cons_zero, List.set_cons_succ, List.getElem_toArray, List.getElem_cons_succ, List.getElem_cons_zero]
          refine take_at (some 117) (i := 29) (v := undef) rfl rfl (by kernel_rfl) (by kernel_rfl) (by kernel_rfl) (fun _ _ _ h => h) (Or.inr ⟨by kernel_rfl, rfl⟩) hHeld ?_
          try simp only [Act.put, List.setIfInBounds_toArray, List.set_cons_zero, List.set_cons_succ, List.getElem_toArray, List.getElem_cons_succ, List.getElem_cons_zero]
          refine take_at (some 118) (i := 30) (v := undef) rfl rfl (by kernel_rfl) (by kernel_rfl) (by kernel_rfl) (fun _ _ _ h => h) (Or.inr ⟨by kernel_rfl, rfl⟩) hHeld ?_
          try simp only [Act.put, List.setIfInBounds_toArray, List.set_cons_zero, List.set_cons_succ, List.getElem_toArray, List.getElem_cons_succ, List.getElem_cons_zero]
          refine take_at (some 119) (i := 31) (v := undef) rfl rfl (by kernel_rfl) (by kernel_rfl) (by kernel_rfl) (fun _ _ _ h => h) (Or.inr ⟨by kernel_rfl, rfl⟩) hHeld ?_
          try simp only [Act.put, List.setIfInBounds_toArray, List.set_cons_zero, List.set_cons_succ, List.getElem_toArray, List.getElem_cons_succ, List.getElem_cons_zero]
          refine take_at (some 120) (i := 32) (v := undef) rfl rfl (by kernel_rfl) (by kernel_rfl) (by kernel_rfl) (fun _ _ _ h => h) (Or.inr ⟨by kernel_rfl, rfl⟩) hHeld ?_
          try simp only [Act.put, List.setIfInBounds_toArray, List.set_cons_zero, List.set_cons_succ, List.getElem_toArray, List.getElem_cons_succ, List.getElem_cons_zero]
          refine take_at (some 121) (i := 33) (v := undef) rfl rfl (by kernel_rfl) (by kernel_rfl) (by kernel_rfl) (fun _ _ _ h => h) (Or.inr ⟨by kernel_rfl, rfl⟩) hHeld ?_
          try simp only [Act.put, List.setIfInBounds_toArray, List.set_cons_zero, List.set_cons_succ, List.getElem_toArray, List.getElem_cons_succ, List.getElem_cons_zero]
          refine take_at (some 122) (i := 34) (v := undef) rfl rfl (by kernel_rfl) (by kernel_rfl) (by kernel_rfl) (fun _ _ _ h => h) (Or.inr ⟨by kernel_rfl, rfl⟩) hHeld ?_
          try simp only [Act.put, List.setIfInBounds_toArray, List.set_cons_zero, List.set_cons_succ, List.getElem_toArray, List.getElem_cons_succ, List.getElem_cons_zero]
          refine take_at (some 123) (i := 35) (v := undef) rfl rfl (by kernel_rfl) (by kernel_rfl) (by kernel_rfl) (fun _ _ _ h => h) (Or.inr ⟨by kernel_rfl, rfl⟩) hHeld ?_
          try simp only [Act.put, List.setIfInBounds_toArray, List.set_cons_zero, List.set_cons_succ, List.getElem_toArray, List.getElem_cons_succ, List.getElem_cons_zero]
          refine take_at (some 124) (i := 36) (v := ?_) rfl rfl (by kernel_rfl) (by kernel_rfl) (by kernel_rfl) (fun _ _ _ h => h) (Or.inl ⟨by kernel_rfl, ?_⟩) hHeld ?_
          rotate_left
          · intro wz hSw; go_simp; try (with_reducible rfl)
          try simp only [Act.put, List.setIfInBounds_toArray, List.set_cons_zero, List.set_cons_succ, List.getElem_toArray, List.getElem_cons_succ, List.getElem_cons_zero]
          refine take_at (some 14) (i := 37) (v := ?_) rfl rfl (by kernel_rfl) (by kernel_rfl) (by kernel_rfl) (fun _ _ _ h => h) (Or.inl ⟨by kernel_rfl, ?_⟩) hHeld ?_
          rotate_left
          · intro wz hSw; go_simp; try (with_reducible rfl)
          try simp only [Act.put, List.setIfInBounds_toArray, List.set_cons_zero, List.set_cons_succ, List.getElem_toArray, List.getElem_cons_succ, List.getElem_cons_zero]
          refine wpAnyH_done (by kernel_rfl) ?_ _
          refine gen_qS (fun y => Ss u2 mb [] sb v s2 [(g8, 34, #[.int .i64 yk, .string ya, .string yb, .int .i64 yn, .int .i64 ym]), (g7, 34, #[.int .i64 1, .string xa, .string xb, .int .i64 xn, .int .i64 xm])] y) hHeld (fun yz hyz => ?_)
          have HYZ := Lib.hid hyz
          clear hyz hHeld HY9
          have a1 : yz.cell? ⟨g7, 1, none⟩ = some (.string xa) := (HYZ.out.bk (b := g7) (t := 34) (cs := #[.int .i64 1, .string xa, .string xb, .int .i64 xn, .int .i64 xm]) (by simp)).cell 1
          go_wp2
          go_ret
          exact ⟨rfl, HSB.out.low HYZ.out⟩
        subst hk3
        cases gd with
        | false =>
          obtain rfl : kn = false := HKE.out
          obtain rfl := HW0.out rfl
          have hem : eS.toList.isEmpty = true := by unfold eS; rw [ByteArray.toList_eq]; rfl
          have hem2 : (eS.toList == []) = true := by unfold eS; rw [ByteArray.toList_eq]; rfl
          try simp only [List.cons_append, List.nil_append]
          refine wp_region_held_drew (S := fun wz => Ss u2 mb [] sb v s2 [(g8, 34, #[.int .i64 3, .string ya, .string yb, .int .i64 yn, .int .i64 ym]), (g7, 34, #[.int .i64 1, .string xa, .string xb, .int .i64 xn, .int .i64 xm])] wz) (by kernel_rfl) (HY9.out.on (Below.refl _ _).drew) (fun hHeld => ?_)
          refine take_at (some 88) (i := 0) (v := ?_) rfl rfl (by kernel_rfl) (by kernel_rfl) (by kernel_rfl) (fun _ _ _ h => h) (Or.inl ⟨by kernel_rfl, ?_⟩) hHeld ?_
          rotate_left
          · intro wz hSw; have a0 : wz.cell? ⟨g7, 0, none⟩ = some (.int .i64 1) := (hSw.bk (b := g7) (t := 34) (cs := #[.int .i64 1, .string xa, .string xb, .int .i64 xn, .int .i64 xm]) (by simp)).cell 0; have a1 : wz.cell? ⟨g7, 1, none⟩ = some (.string xa) := (hSw.bk (b := g7) (t := 34) (cs := #[.int .i64 1, .string xa, .string xb, .int .i64 xn, .int .i64 xm]) (by simp)).cell 1; have a2 : wz.cell? ⟨g7, 2, none⟩ = some (.string xb) := (hSw.bk (b := g7) (t := 34) (cs := #[.int .i64 1, .string xa, .string xb, .int .i64 xn, .int .i64 xm]) (by simp)).cell 2; have b0 : wz.cell? ⟨g8, 0, none⟩ = some (.int .i64 3) := hSw.head.cell 0; have b1 : wz.cell? ⟨g8, 1, none⟩ = some (.string ya) := hSw.head.cell 1; go_simp; try (with_reducible rfl)
          try simp only [Act.put, List.setIfInBounds_toArray, List.set_cons_zero, List.set_cons_succ, List.getElem_toArray, List.getElem_cons_succ, List.getElem_cons_zero]
          refine take_at (some 89) (i := 1) (v := ?_) rfl rfl (by kernel_rfl) (by kernel_rfl) (by kernel_rfl) (fun _ _ _ h => h) (Or.inl ⟨by kernel_rfl, ?_⟩) hHeld ?_
          rotate_left
          · intro wz hSw; have a0 : wz.cell? ⟨g7, 0, none⟩ = some (.int .i64 1) := (hSw.bk (b := g7) (t := 34) (cs := #[.int .i64 1, .string xa, .string xb, .int .i64 xn, .int .i64 xm]) (by simp)).cell 0; have a1 : wz.cell? ⟨g7, 1, none⟩ = some (.string xa) := (hSw.bk (b := g7) (t := 34) (cs := #[.int .i64 1, .string xa, .string xb, .int .i64 xn, .int .i64 xm]) (by simp)).cell 1; have a2 : wz.cell? ⟨g7, 2, none⟩ = some (.string xb) := (hSw.bk (b := g7) (t := 34) (cs := #[.int .i64 1, .string xa, .string xb, .int .i64 xn, .int .i64 xm]) (by simp)).cell 2; have b0 : wz.cell? ⟨g8, 0, none⟩ = some (.int .i64 3) := hSw.head.cell 0; have b1 : wz.cell? ⟨g8, 1, none⟩ = some (.string ya) := hSw.head.cell 1; go_simp; try (with_reducible rfl)
          try simp only [Act.put, List.setIfInBounds_toArray, List.set_cons_zero, List.set_cons_succ, List.getElem_toArray, List.getElem_cons_succ, List.getElem_cons_zero]
          refine take_at (some 90) (i := 2) (v := ?_) rfl rfl (by kernel_rfl) (by kernel_rfl) (by kernel_rfl) (fun _ _ _ h => h) (Or.inl ⟨by kernel_rfl, ?_⟩) hHeld ?_
          rotate_left
          · intro wz hSw; have a0 : wz.cell? ⟨g7, 0, none⟩ = some (.int .i64 1) := (hSw.bk (b := g7) (t := 34) (cs := #[.int .i64 1, .string xa, .string xb, .int .i64 xn, .int .i64 xm]) (by simp)).cell 0; have a1 : wz.cell? ⟨g7, 1, none⟩ = some (.string xa) := (hSw.bk (b := g7) (t := 34) (cs := #[.int .i64 1, .string xa, .string xb, .int .i64 xn, .int .i64 xm]) (by simp)).cell 1; have a2 : wz.cell? ⟨g7, 2, none⟩ = some (.string xb) := (hSw.bk (b := g7) (t := 34) (cs := #[.int .i64 1, .string xa, .string xb, .int .i64 xn, .int .i64 xm]) (by simp)).cell 2; have b0 : wz.cell? ⟨g8, 0, none⟩ = some (.int .i64 3) := hSw.head.cell 0; have b1 : wz.cell? ⟨g8, 1, none⟩ = some (.string ya) := hSw.head.cell 1; go_simp; try (with_reducible rfl)
          try simp only [Act.put, List.setIfInBounds_toArray, List.set_cons_zero, List.set_cons_succ, List.getElem_toArray, List.getElem_cons_succ, List.getElem_cons_zero]
          refine take_at (some 91) (i := 3) (v := ?_) rfl rfl (by kernel_rfl) (by kernel_rfl) (by kernel_rfl) (fun _ _ _ h => h) (Or.inl ⟨by kernel_rfl, ?_⟩) hHeld ?_
          rotate_left
          · intro wz hSw; go_simp; try (with_reducible rfl)
          try simp only [Act.put, List.setIfInBounds_toArray, List.set_cons_zero, List.set_cons_succ, List.getElem_toArray, List.getElem_cons_succ, List.getElem_cons_zero]
          refine take_at (some 92) (i := 4) (v := ?_) rfl rfl (by kernel_rfl) (by kernel_rfl) (by kernel_rfl) (fun _ _ _ h => h) (Or.inl ⟨by kernel_rfl, ?_⟩) hHeld ?_
          rotate_left
          · intro wz hSw; have a0 : wz.cell? ⟨g7, 0, none⟩ = some (.int .i64 1) := (hSw.bk (b := g7) (t := 34) (cs := #[.int .i64 1, .string xa, .string xb, .int .i64 xn, .int .i64 xm]) (by simp)).cell 0; have a1 : wz.cell? ⟨g7, 1, none⟩ = some (.string xa) := (hSw.bk (b := g7) (t := 34) (cs := #[.int .i64 1, .string xa, .string xb, .int .i64 xn, .int .i64 xm]) (by simp)).cell 1; have a2 : wz.cell? ⟨g7, 2, none⟩ = some (.string xb) := (hSw.bk (b := g7) (t := 34) (cs := #[.int .i64 1, .string xa, .string xb, .int .i64 xn, .int .i64 xm]) (by simp)).cell 2; have b0 : wz.cell? ⟨g8, 0, none⟩ = some (.int .i64 3) := hSw.head.cell 0; have b1 : wz.cell? ⟨g8, 1, none⟩ = some (.string ya) := hSw.head.cell 1; go_simp; try (with_reducible rfl)
          try simp only [Act.put, List.setIfInBounds_toArray, List.set_cons_zero, List.set_cons_succ, List.getElem_toArray, List.getElem_cons_succ, List.getElem_cons_zero]
          refine take_at (some 93) (i := 5) (v := ?_) rfl rfl (by kernel_rfl) (by kernel_rfl) (by kernel_rfl) (fun _ _ _ h => h) (Or.inl ⟨by kernel_rfl, ?_⟩) hHeld ?_
          rotate_left
          · intro wz hSw; have a0 : wz.cell? ⟨g7, 0, none⟩ = some (.int .i64 1) := (hSw.bk (b := g7) (t := 34) (cs := #[.int .i64 1, .string xa, .string xb, .int .i64 xn, .int .i64 xm]) (by simp)).cell 0; have a1 : wz.cell? ⟨g7, 1, none⟩ = some (.string xa) := (hSw.bk (b := g7) (t := 34) (cs := #[.int .i64 1, .string xa, .string xb, .int .i64 xn, .int .i64 xm]) (by simp)).cell 1; have a2 : wz.cell? ⟨g7, 2, none⟩ = some (.string xb) := (hSw.bk (b := g7) (t := 34) (cs := #[.int .i64 1, .string xa, .string xb, .int .i64 xn, .int .i64 xm]) (by simp)).cell 2; have b0 : wz.cell? ⟨g8, 0, none⟩ = some (.int .i64 3) := hSw.head.cell 0; have b1 : wz.cell? ⟨g8, 1, none⟩ = some (.string ya) := hSw.head.cell 1; go_simp; try (with_reducible rfl)
          try simp only [Act.put, List.setIfInBounds_toArray, List.set_cons_zero, List.set_cons_succ, List.getElem_toArray, List.getElem_cons_succ, List.getElem_cons_zero]
          refine take_at (some 94) (i := 6) (v := ?_) rfl rfl (by kernel_rfl) (by kernel_rfl) (by kernel_rfl) (fun _ _ _ h => h) (Or.inl ⟨by kernel_rfl, ?_⟩) hHeld ?_
          rotate_left
          · intro wz hSw; have a0 : wz.cell? ⟨g7, 0, none⟩ = some (.int .i64 1) := (hSw.bk (b := g7) (t := 34) (cs := #[.int .i64 1, .string xa, .string xb, .int .i64 xn, .int .i64 xm]) (by simp)).cell 0; have a1 : wz.cell? ⟨g7, 1, none⟩ = some (.string xa) := (hSw.bk (b := g7) (t := 34) (cs := #[.int .i64 1, .string xa, .string xb, .int .i64 xn, .int .i64 xm]) (by simp)).cell 1; have a2 : wz.cell? ⟨g7, 2, none⟩ = some (.string xb) := (hSw.bk (b := g7) (t := 34) (cs := #[.int .i64 1, .string xa, .string xb, .int .i64 xn, .int .i64 xm]) (by simp)).cell 2; have b0 : wz.cell? ⟨g8, 0, none⟩ = some (.int .i64 3) := hSw.head.cell 0; have b1 : wz.cell? ⟨g8, 1, none⟩ = some (.string ya) := hSw.head.cell 1; go_simp; try (with_reducible rfl)
          try simp only [Act.put, List.setIfInBounds_toArray, List.set_cons_zero, List.set_cons_succ, List.getElem_toArray, List.getElem_cons_succ, List.getElem_cons_zero]
          refine take_at (some 95) (i := 7) (v := ?_) rfl rfl (by kernel_rfl) (by kernel_rfl) (by kernel_rfl) (fun _ _ _ h => h) (Or.inl ⟨by kernel_rfl, ?_⟩) hHeld ?_
          rotate_left
          · intro wz hSw; go_simp; try (with_reducible rfl)
          try simp only [Act.put, List.setIfInBounds_toArray, List.set_cons_zero, List.set_cons_succ, List.getElem_toArray, List.getElem_cons_succ, List.getElem_cons_zero]
          refine take_at (some 96) (i := 8) (v := ?_) rfl rfl (by kernel_rfl) (by kernel_rfl) (by kernel_rfl) (fun _ _ _ h => h) (Or.inl ⟨by kernel_rfl, ?_⟩) hHeld ?_
          rotate_left
          · intro wz hSw; go_simp; try (with_reducible rfl)
          try simp only [Act.put, List.setIfInBounds_toArray, List.set_cons_zero, List.set_cons_succ, List.getElem_toArray, List.getElem_cons_succ, List.getElem_cons_zero]
          refine take_at (some 97) (i := 9) (v := ?_) rfl rfl (by kernel_rfl) (by kernel_rfl) (by kernel_rfl) (fun _ _ _ h => h) (Or.inl ⟨by kernel_rfl, ?_⟩) hHeld ?_
          rotate_left
          · intro wz hSw; go_simp; try (with_reducible rfl)
          try simp only [Act.put, List.setIfInBounds_toArray, List.set_cons_zero, List.set_cons_succ, List.getElem_toArray, List.getElem_cons_succ, List.getElem_cons_zero]
          refine take_at (some 98) (i := 10) (v := ?_) rfl rfl (by kernel_rfl) (by kernel_rfl) (by kernel_rfl) (fun _ _ _ h => h) (Or.inl ⟨by kernel_rfl, ?_⟩) hHeld ?_
          rotate_left
          · intro wz hSw; have a0 : wz.cell? ⟨g7, 0, none⟩ = some (.int .i64 1) := (hSw.bk (b := g7) (t := 34) (cs := #[.int .i64 1, .string xa, .string xb, .int .i64 xn, .int .i64 xm]) (by simp)).cell 0; have a1 : wz.cell? ⟨g7, 1, none⟩ = some (.string xa) := (hSw.bk (b := g7) (t := 34) (cs := #[.int .i64 1, .string xa, .string xb, .int .i64 xn, .int .i64 xm]) (by simp)).cell 1; have a2 : wz.cell? ⟨g7, 2, none⟩ = some (.string xb) := (hSw.bk (b := g7) (t := 34) (cs := #[.int .i64 1, .string xa, .string xb, .int .i64 xn, .int .i64 xm]) (by simp)).cell 2; have b0 : wz.cell? ⟨g8, 0, none⟩ = some (.int .i64 3) := hSw.head.cell 0; have b1 : wz.cell? ⟨g8, 1, none⟩ = some (.string ya) := hSw.head.cell 1; have hBx := HSB.out.low hSw; obtain ⟨x0, x1, x2, x3, x4, x5, x6, x7⟩ := HCX.out wz hBx; obtain ⟨q0, q1, q2, q3, q4, q5, q6, q7⟩ := HCY.out wz hBx; simp only [Nat.zero_mul, Nat.one_mul, Nat.add_zero] at x0 x1 x2 x3 x4 x5 x6 x7 q0 q1 q2 q3 q4 q5 q6 q7; clear hBx; go_simp; try (with_reducible rfl)
          try simp only [Act.put, List.setIfInBounds_toArray, List.set_cons_zero, List.set_cons_succ, List.getElem_toArray, List.getElem_cons_succ, List.getElem_cons_zero]
          refine take_at (some 99) (i := 11) (v := ?_) rfl rfl (by kernel_rfl) (by kernel_rfl) (by kernel_rfl) (fun _ _ _ h => h) (Or.inl ⟨by kernel_rfl, ?_⟩) hHeld ?_
          rotate_left
          · intro wz hSw; have a0 : wz.cell? ⟨g7, 0, none⟩ = some (.int .i64 1) := (hSw.bk (b := g7) (t := 34) (cs := #[.int .i64 1, .string xa, .string xb, .int .i64 xn, .int .i64 xm]) (by simp)).cell 0; have a1 : wz.cell? ⟨g7, 1, none⟩ = some (.string xa) := (hSw.bk (b := g7) (t := 34) (cs := #[.int .i64 1, .string xa, .string xb, .int .i64 xn, .int .i64 xm]) (by simp)).cell 1; have a2 : wz.cell? ⟨g7, 2, none⟩ = some (.string xb) := (hSw.bk (b := g7) (t := 34) (cs := #[.int .i64 1, .string xa, .string xb, .int .i64 xn, .int .i64 xm]) (by simp)).cell 2; have b0 : wz.cell? ⟨g8, 0, none⟩ = some (.int .i64 3) := hSw.head.cell 0; have b1 : wz.cell? ⟨g8, 1, none⟩ = some (.string ya) := hSw.head.cell 1; have hBx := HSB.out.low hSw; obtain ⟨x0, x1, x2, x3, x4, x5, x6, x7⟩ := HCX.out wz hBx; obtain ⟨q0, q1, q2, q3, q4, q5, q6, q7⟩ := HCY.out wz hBx; simp only [Nat.zero_mul, Nat.one_mul, Nat.add_zero] at x0 x1 x2 x3 x4 x5 x6 x7 q0 q1 q2 q3 q4 q5 q6 q7; clear hBx; go_simp; try (with_reducible rfl)
          try simp only [Act.put, List.setIfInBounds_toArray, List.set_cons_zero, List.set_cons_succ, List.getElem_toArray, List.getElem_cons_succ, List.getElem_cons_zero]
          refine take_at (some 100) (i := 12) (v := ?_) rfl rfl (by kernel_rfl) (by kernel_rfl) (by kernel_rfl) (fun _ _ _ h => h) (Or.inl ⟨by kernel_rfl, ?_⟩) hHeld ?_
          rotate_left
          · intro wz hSw; have a0 : wz.cell? ⟨g7, 0, none⟩ = some (.int .i64 1) := (hSw.bk (b := g7) (t := 34) (cs := #[.int .i64 1, .string xa, .string xb, .int .i64 xn, .int .i64 xm]) (by simp)).cell 0; have a1 : wz.cell? ⟨g7, 1, none⟩ = some (.string xa) := (hSw.bk (b := g7) (t := 34) (cs := #[.int .i64 1, .string xa, .string xb, .int .i64 xn, .int .i64 xm]) (by simp)).cell 1; have a2 : wz.cell? ⟨g7, 2, none⟩ = some (.string xb) := (hSw.bk (b := g7) (t := 34) (cs := #[.int .i64 1, .string xa, .string xb, .int .i64 xn, .int .i64 xm]) (by simp)).cell 2; have b0 : wz.cell? ⟨g8, 0, none⟩ = some (.int .i64 3) := hSw.head.cell 0; have b1 : wz.cell? ⟨g8, 1, none⟩ = some (.string ya) := hSw.head.cell 1; have hBx := HSB.out.low hSw; obtain ⟨x0, x1, x2, x3, x4, x5, x6, x7⟩ := HCX.out wz hBx; obtain ⟨q0, q1, q2, q3, q4, q5, q6, q7⟩ := HCY.out wz hBx; simp only [Nat.zero_mul, Nat.one_mul, Nat.add_zero] at x0 x1 x2 x3 x4 x5 x6 x7 q0 q1 q2 q3 q4 q5 q6 q7; clear hBx; go_simp; try (with_reducible rfl)
          try simp only [Act.put, List.setIfInBounds_toArray, List.set_cons_zero, List.set_cons_succ, List.getElem_toArray, List.getElem_cons_succ, List.getElem_cons_zero]
          refine take_at (some 101) (i := 13) (v := ?_) rfl rfl (by kernel_rfl) (by kernel_rfl) (by kernel_rfl) (fun _ _ _ h => h) (Or.inl ⟨by kernel_rfl, ?_⟩) hHeld ?_
          rotate_left
          · intro wz hSw; have a0 : wz.cell? ⟨g7, 0, none⟩ = some (.int .i64 1) := (hSw.bk (b := g7) (t := 34) (cs := #[.int .i64 1, .string xa, .string xb, .int .i64 xn, .int .i64 xm]) (by simp)).cell 0; have a1 : wz.cell? ⟨g7, 1, none⟩ = some (.string xa) := (hSw.bk (b := g7) (t := 34) (cs := #[.int .i64 1, .string xa, .string xb, .int .i64 xn, .int .i64 xm]) (by simp)).cell 1; have a2 : wz.cell? ⟨g7, 2, none⟩ = some (.string xb) := (hSw.bk (b := g7) (t := 34) (cs := #[.int .i64 1, .string xa, .string xb, .int .i64 xn, .int .i64 xm]) (by simp)).cell 2; have b0 : wz.cell? ⟨g8, 0, none⟩ = some (.int .i64 3) := hSw.head.cell 0; have b1 : wz.cell? ⟨g8, 1, none⟩ = some (.string ya) := hSw.head.cell 1; have hBx := HSB.out.low hSw; obtain ⟨x0, x1, x2, x3, x4, x5, x6, x7⟩ := HCX.out wz hBx; obtain ⟨q0, q1, q2, q3, q4, q5, q6, q7⟩ := HCY.out wz hBx; simp only [Nat.zero_mul, Nat.one_mul, Nat.add_zero] at x0 x1 x2 x3 x4 x5 x6 x7 q0 q1 q2 q3 q4 q5 q6 q7; clear hBx; go_simp; try (with_reducible rfl)
          try simp only [Act.put, List.setIfInBounds_toArray, List.set_cons_zero, List.set_cons_succ, List.getElem_toArray, List.getElem_cons_succ, List.getElem_cons_zero]
          refine take_at (some 102) (i := 14) (v := ?_) rfl rfl (by kernel_rfl) (by kernel_rfl) (by kernel_rfl) (fun _ _ _ h => h) (Or.inl ⟨by kernel_rfl, ?_⟩) hHeld ?_
          rotate_left
          · intro wz hSw; go_simp; try (with_reducible rfl)
          try simp only [Act.put, List.setIfInBounds_toArray, List.set_cons_zero, List.set_cons_succ, List.getElem_toArray, List.getElem_cons_succ, List.getElem_cons_zero]
          refine take_at (some 103) (i := 15) (v := ?_) rfl rfl (by kernel_rfl) (by kernel_rfl) (by kernel_rfl) (fun _ _ _ h => h) (Or.inl ⟨by kernel_rfl, ?_⟩) hHeld ?_
          rotate_left
          · intro wz hSw; have a0 : wz.cell? ⟨g7, 0, none⟩ = some (.int .i64 1) := (hSw.bk (b := g7) (t := 34) (cs := #[.int .i64 1, .string xa, .string xb, .int .i64 xn, .int .i64 xm]) (by simp)).cell 0; have a1 : wz.cell? ⟨g7, 1, none⟩ = some (.string xa) := (hSw.bk (b := g7) (t := 34) (cs := #[.int .i64 1, .string xa, .string xb, .int .i64 xn, .int .i64 xm]) (by simp)).cell 1; have a2 : wz.cell? ⟨g7, 2, none⟩ = some (.string xb) := (hSw.bk (b := g7) (t := 34) (cs := #[.int .i64 1, .string xa, .string xb, .int .i64 xn, .int .i64 xm]) (by simp)).cell 2; have b0 : wz.cell? ⟨g8, 0, none⟩ = some (.int .i64 3) := hSw.head.cell 0; have b1 : wz.cell? ⟨g8, 1, none⟩ = some (.string ya) := hSw.head.cell 1; have hBx := HSB.out.low hSw; obtain ⟨x0, x1, x2, x3, x4, x5, x6, x7⟩ := HCX.out wz hBx; obtain ⟨q0, q1, q2, q3, q4, q5, q6, q7⟩ := HCY.out wz hBx; simp only [Nat.zero_mul, Nat.one_mul, Nat.add_zero] at x0 x1 x2 x3 x4 x5 x6 x7 q0 q1 q2 q3 q4 q5 q6 q7; clear hBx; go_simp; try (with_reducible rfl)
          try simp only [Act.put, List.setIfInBounds_toArray, List.set_cons_zero, List.set_cons_succ, List.getElem_toArray, List.getElem_cons_succ, List.getElem_cons_zero]
          refine take_at (some 104) (i := 16) (v := ?_) rfl rfl (by kernel_rfl) (by kernel_rfl) (by kernel_rfl) (fun _ _ _ h => h) (Or.inl ⟨by kernel_rfl, ?_⟩) hHeld ?_
          rotate_left
          · intro wz hSw; have a0 : wz.cell? ⟨g7, 0, none⟩ = some (.int .i64 1) := (hSw.bk (b := g7) (t := 34) (cs := #[.int .i64 1, .string xa, .string xb, .int .i64 xn, .int .i64 xm]) (by simp)).cell 0; have a1 : wz.cell? ⟨g7, 1, none⟩ = some (.string xa) := (hSw.bk (b := g7) (t := 34) (cs := #[.int .i64 1, .string xa, .string xb, .int .i64 xn, .int .i64 xm]) (by simp)).cell 1; have a2 : wz.cell? ⟨g7, 2, none⟩ = some (.string xb) := (hSw.bk (b := g7) (t := 34) (cs := #[.int .i64 1, .string xa, .string xb, .int .i64 xn, .int .i64 xm]) (by simp)).cell 2; have b0 : wz.cell? ⟨g8, 0, none⟩ = some (.int .i64 3) := hSw.head.cell 0; have b1 : wz.cell? ⟨g8, 1, none⟩ = some (.string ya) := hSw.head.cell 1; have hBx := HSB.out.low hSw; obtain ⟨x0, x1, x2, x3, x4, x5, x6, x7⟩ := HCX.out wz hBx; obtain ⟨q0, q1, q2, q3, q4, q5, q6, q7⟩ := HCY.out wz hBx; simp only [Nat.zero_mul, Nat.one_mul, Nat.add_zero] at x0 x1 x2 x3 x4 x5 x6 x7 q0 q1 q2 q3 q4 q5 q6 q7; clear hBx; go_simp; try (with_reducible rfl)
          try simp only [Act.put, List.setIfInBounds_toArray, List.set_cons_zero, List.set_cons_succ, List.getElem_toArray, List.getElem_cons_succ, List.getElem_cons_zero]
          refine take_at (some 105) (i := 17) (v := ?_) rfl rfl (by kernel_rfl) (by kernel_rfl) (by kernel_rfl) (fun _ _ _ h => h) (Or.inl ⟨by kernel_rfl, ?_⟩) hHeld ?_
          rotate_left
          · intro wz hSw; have a0 : wz.cell? ⟨g7, 0, none⟩ = some (.int .i64 1) := (hSw.bk (b := g7) (t := 34) (cs := #[.int .i64 1, .string xa, .string xb, .int .i64 xn, .int .i64 xm]) (by simp)).cell 0; have a1 : wz.cell? ⟨g7, 1, none⟩ = some (.string xa) := (hSw.bk (b := g7) (t := 34) (cs := #[.int .i64 1, .string xa, .string xb, .int .i64 xn, .int .i64 xm]) (by simp)).cell 1; have a2 : wz.cell? ⟨g7, 2, none⟩ = some (.string xb) := (hSw.bk (b := g7) (t := 34) (cs := #[.int .i64 1, .string xa, .string xb, .int .i64 xn, .int .i64 xm]) (by simp)).cell 2; have b0 : wz.cell? ⟨g8, 0, none⟩ = some (.int .i64 3) := hSw.head.cell 0; have b1 : wz.cell? ⟨g8, 1, none⟩ = some (.string ya) := hSw.head.cell 1; have hBx := HSB.out.low hSw; obtain ⟨x0, x1, x2, x3, x4, x5, x6, x7⟩ := HCX.out wz hBx; obtain ⟨q0, q1, q2, q3, q4, q5, q6, q7⟩ := HCY.out wz hBx; simp only [Nat.zero_mul, Nat.one_mul, Nat.add_zero] at x0 x1 x2 x3 x4 x5 x6 x7 q0 q1 q2 q3 q4 q5 q6 q7; clear hBx; go_simp; try (with_reducible rfl)
          try simp only [Act.put, List.setIfInBounds_toArray, List.set_cons_zero, List.set_cons_succ, List.getElem_toArray, List.getElem_cons_succ, List.getElem_cons_zero]
          refine wpAnyH_ready (rs := [18]) (by kernel_rfl) (by simp) (AllReadyH.cons rfl (fun K hK => ?_) AllReadyH.nil)
          rw [if_pos (by kernel_rfl)]
          go_simp
          refine (HGO2.out _ _ hHeld).mono ?_
          rintro e z18 ⟨rfl, hz18⟩
          try dsimp only
          refine hK.out _ _ hz18 (fun hHeld => ?_)
          try simp only [Act.put, List.setIfInBounds_toArray, List.set_cons_zero, List.set_cons_succ, List.getElem_toArray, List.getElem_cons_succ, List.getElem_cons_zero]
          refine take_at (some 107) (i := 19) (v := ?_) rfl rfl (by kernel_rfl) (by kernel_rfl) (by kernel_rfl) (fun _ _ _ h => h) (Or.inl ⟨by kernel_rfl, ?_⟩) hHeld ?_
          rotate_left
          · intro wz hSw; go_simp; try (with_reducible rfl)
          try simp only [Act.put, List.setIfInBounds_toArray, List.set_cons_zero, List.set_cons_succ, List.getElem_toArray, List.getElem_cons_succ, List.getElem_cons_zero]
          refine take_at (some 108) (i := 20) (v := ?_) rfl rfl (by kernel_rfl) (by kernel_rfl) (by kernel_rfl) (fun _ _ _ h => h) (Or.inl ⟨by kernel_rfl, ?_⟩) hHeld ?_
          rotate_left
          · intro wz hSw; go_simp; try (with_reducible rfl)
          try simp only [Act.put, List.setIfInBounds_toArray, List.set_cons_zero, List.set_cons_succ, List.getElem_toArray, List.getElem_cons_succ, List.getElem_cons_zero]
          refine take_at (some 109) (i := 21) (v := undef) rfl rfl (by kernel_rfl) (by kernel_rfl) (by kernel_rfl) (fun _ _ _ h => h) (Or.inr ⟨by kernel_rfl, rfl⟩) hHeld ?_
          try simp only [Act.put, List.setIfInBounds_toArray, List.set_cons_zero, List.set_cons_succ, List.getElem_toArray, List.getElem_cons_succ, List.getElem_cons_zero]
          refine take_at (some 110) (i := 22) (v := undef) rfl rfl (by kernel_rfl) (by kernel_rfl) (by kernel_rfl) (fun _ _ _ h => h) (Or.inr ⟨by kernel_rfl, rfl⟩) hHeld ?_
          try simp only [Act.put, List.setIfInBounds_toArray, List.set_cons_zero, List.set_cons_succ, List.getElem_toArray, List.getElem_cons_succ, List.getElem_cons_zero]
          refine take_at (some 111) (i := 23) (v := undef) rfl rfl (by kernel_rfl) (by kernel_rfl) (by kernel_rfl) (fun _ _ _ h => h) (Or.inr ⟨by kernel_rfl, rfl⟩) hHeld ?_
          try simp only [Act.put, List.setIfInBounds_toArray, List.set_cons_zero, List.set_cons_succ, List.getElem_toArray, List.getElem_cons_succ, List.getElem_cons_zero]
          refine take_at (some 112) (i := 24) (v := ?_) rfl rfl (by kernel_rfl) (by kernel_rfl) (by kernel_rfl) (fun _ _ _ h => h) (Or.inl ⟨by kernel_rfl, ?_⟩) hHeld ?_
          rotate_left
          · intro wz hSw; go_simp; try (with_reducible rfl)
          try simp only [Act.put, List.setIfInBounds_toArray, List.set_cons_zero, List.set_cons_succ, List.getElem_toArray, List.getElem_cons_succ, List.getElem_cons_zero]
          refine take_at (some 113) (i := 25) (v := ?_) rfl rfl (by kernel_rfl) (by kernel_rfl) (by kernel_rfl) (fun _ _ _ h => h) (Or.inl ⟨by kernel_rfl, ?_⟩) hHeld ?_
          rotate_left
          · intro wz hSw; go_simp; try (with_reducible rfl)
          try simp only [Act.put, List.setIfInBounds_toArray, List.set_cons_zero, List.set_cons_succ, List.getElem_toArray, List.getElem_cons_succ, List.getElem_cons_zero]
          refine take_at (some 114) (i := 26) (v := undef) rfl rfl (by kernel_rfl) (by kernel_rfl) (by kernel_rfl) (fun _ _ _ h => h) (Or.inr ⟨by kernel_rfl, rfl⟩) hHeld ?_
          try simp only [Act.put, List.setIfInBounds_toArray, List.set_cons_zero, List.set_cons_succ, List.getElem_toArray, List.getElem_cons_succ, List.getElem_cons_zero]
          refine take_at (some 115) (i := 27) (v := undef) rfl rfl (by kernel_rfl) (by kernel_rfl) (by kernel_rfl) (fun _ _ _ h => h) (Or.inr ⟨by kernel_rfl, rfl⟩) hHeld ?_
          try simp only [Act.put, List.setIfInBounds_toArray, List.set_cons_zero, List.set_cons_succ, List.getElem_toArray, List.getElem_cons_succ, List.getElem_cons_zero]
          refine take_at (some 116) (i := 28) (v := undef) rfl rfl (by kernel_rfl) (by kernel_rfl) (by kernel_rfl) (fun _ _ _ h => h) (Or.inr ⟨by kernel_rfl, rfl⟩) hHeld ?_
          try simp only [Act.put, List.setIfInBounds_toArray, List.set_cons_zero, List.set_cons_succ, List.getElem_toArray, List.getElem_cons_succ, List.getElem_cons_zero]
          refine take_at (some 117) (i := 29) (v := undef) rfl rfl (by kernel_rfl) (by kernel_rfl) (by kernel_rfl) (fun _ _ _ h => h) (Or.inr ⟨by kernel_rfl, rfl⟩) hHeld ?_
          try simp only [Act.put, List.setIfInBounds_toArray, List.set_cons_zero, List.set_cons_succ, List.getElem_toArray, List.getElem_cons_succ, List.getElem_cons_zero]
          refine take_at (some 118) (i := 30) (v := undef) rfl rfl (by kernel_rfl) (by kernel_rfl) (by kernel_rfl) (fun _ _ _ h => h) (Or.inr ⟨by kernel_rfl, rfl⟩) hHeld ?_
          try simp only [Act.put, List.setIfInBounds_toArray, List.set_cons_zero, List.set_cons_succ, List.getElem_toArray, List.getElem_cons_succ, List.getElem_cons_zero]
          refine take_at (some 119) (i := 31) (v := undef) rfl rfl (by kernel_rfl) (by kernel_rfl) (by kernel_rfl) (fun _ _ _ h => h) (Or.inr ⟨by kernel_rfl, rfl⟩) hHeld ?_
          try simp only [Act.put, List.setIfInBounds_toArray, List.set_cons_zero, List.set_cons_succ, List.getElem_toArray, List.getElem_cons_succ, List.getElem_cons_zero]
          refine take_at (some 120) (i := 32) (v := undef) rfl rfl (by kernel_rfl) (by kernel_rfl) (by kernel_rfl) (fun _ _ _ h => h) (Or.inr ⟨by kernel_rfl, rfl⟩) hHeld ?_
          try simp only [Act.put, List.setIfInBounds_toArray, List.set_cons_zero, List.set_cons_succ, List.getElem_toArray, List.getElem_cons_succ, List.getElem_cons_zero]
          refine take_at (some 121) (i := 33) (v := undef) rfl rfl (by kernel_rfl) (by kernel_rfl) (by kernel_rfl) (fun _ _ _ h => h) (Or.inr ⟨by kernel_rfl, rfl⟩) hHeld ?_
          try simp only [Act.put, List.setIfInBounds_toArray, List.set_cons_zero, List.set_cons_succ, List.getElem_toArray, List.getElem_cons_succ, List.getElem_cons_zero]
          refine take_at (some 122) (i := 34) (v := undef) rfl rfl (by kernel_rfl) (by kernel_rfl) (by kernel_rfl) (fun _ _ _ h => h) (Or.inr ⟨by kernel_rfl, rfl⟩) hHeld ?_
          try simp only [Act.put, List.setIfInBounds_toArray, List.set_cons_zero, List.set_cons_succ, List.getElem_toArray, List.getElem_cons_succ, List.getElem_cons_zero]
          refine take_at (some 123) (i := 35) (v := undef) rfl rfl (by kernel_rfl) (by kernel_rfl) (by kernel_rfl) (fun _ _ _ h => h) (Or.inr ⟨by kernel_rfl, rfl⟩) hHeld ?_
          try simp only [Act.put, List.setIfInBounds_toArray, List.set_cons_zero, List.set_cons_succ, List.getElem_toArray, List.getElem_cons_succ, List.getElem_cons_zero]
          refine take_at (some 124) (i := 36) (v := ?_) rfl rfl (by kernel_rfl) (by kernel_rfl) (by kernel_rfl) (fun _ _ _ h => h) (Or.inl ⟨by kernel_rfl, ?_⟩) hHeld ?_
          rotate_left
          · intro wz hSw; go_simp; try (with_reducible rfl)
          try simp only [Act.put, List.setIfInBounds_toArray, List.set_cons_zero, List.set_cons_succ, List.getElem_toArray, List.getElem_cons_succ, List.getElem_cons_zero]
          refine take_at (some 14) (i := 37) (v := ?_) rfl rfl (by kernel_rfl) (by kernel_rfl) (by kernel_rfl) (fun _ _ _ h => h) (Or.inl ⟨by kernel_rfl, ?_⟩) hHeld ?_
          rotate_left
          · intro wz hSw; go_simp; try (with_reducible rfl)
          try simp only [Act.put, List.setIfInBounds_toArray, List.set_cons_zero, List.set_cons_succ, List.getElem_toArray, List.getElem_cons_succ, List.getElem_cons_zero]
          refine wpAnyH_done (by kernel_rfl) ?_ _
          refine gen_qS (fun y => Ss u2 mb [] sb v s2 [(g8, 34, #[.int .i64 3, .string ya, .string yb, .int .i64 yn, .int .i64 ym]), (g7, 34, #[.int .i64 1, .string xa, .string xb, .int .i64 xn, .int .i64 xm])] y) hHeld (fun yz hyz => ?_)
          have HYZ := Lib.hid hyz
          clear hyz hHeld HY9
          have a1 : yz.cell? ⟨g7, 1, none⟩ = some (.string xa) := (HYZ.out.bk (b := g7) (t := 34) (cs := #[.int .i64 1, .string xa, .string xb, .int .i64 xn, .int .i64 xm]) (by simp)).cell 1
          go_wp2
          go_ret
          exact ⟨rfl, HSB.out.low HYZ.out⟩
        | true =>
          cases pe with
          | true =>
            have hpe := HPE.out
            obtain rfl : kn = false := HKE.out
            obtain rfl := HW0.out rfl
            have hem : eS.toList.isEmpty = true := by unfold eS; rw [ByteArray.toList_eq]; rfl
            have hem2 : (eS.toList == []) = true := by unfold eS; rw [ByteArray.toList_eq]; rfl
            try simp only [List.cons_append, List.nil_append]
            refine wp_region_held_drew (S := fun wz => Ss u2 mb [] sb v s2 [(g8, 34, #[.int .i64 3, .string ya, .string yb, .int .i64 yn, .int .i64 ym]), (g7, 34, #[.int .i64 1, .string xa, .string xb, .int .i64 xn, .int .i64 xm])] wz) (by kernel_rfl) (HY9.out.on (Below.refl _ _).drew) (fun hHeld => ?_)
            refine take_at (some 88) (i := 0) (v := ?_) rfl rfl (by kernel_rfl) (by kernel_rfl) (by kernel_rfl) (fun _ _ _ h => h) (Or.inl ⟨by kernel_rfl, ?_⟩) hHeld ?_
            rotate_left
            · intro wz hSw; have a0 : wz.cell? ⟨g7, 0, none⟩ = some (.int .i64 1) := (hSw.bk (b := g7) (t := 34) (cs := #[.int .i64 1, .string xa, .string xb, .int .i64 xn, .int .i64 xm]) (by simp)).cell 0; have a1 : wz.cell? ⟨g7, 1, none⟩ = some (.string xa) := (hSw.bk (b := g7) (t := 34) (cs := #[.int .i64 1, .string xa, .string xb, .int .i64 xn, .int .i64 xm]) (by simp)).cell 1; have a2 : wz.cell? ⟨g7, 2, none⟩ = some (.string xb) := (hSw.bk (b := g7) (t := 34) (cs := #[.int .i64 1, .string xa, .string xb, .int .i64 xn, .int .i64 xm]) (by simp)).cell 2; have b0 : wz.cell? ⟨g8, 0, none⟩ = some (.int .i64 3) := hSw.head.cell 0; have b1 : wz.cell? ⟨g8, 1, none⟩ = some (.string ya) := hSw.head.cell 1; go_simp; try (with_reducible rfl)
            try simp only [Act.put, List.setIfInBounds_toArray, List.set_cons_zero, List.set_cons_succ, List.getElem_toArray, List.getElem_cons_succ, List.getElem_cons_zero]
            refine take_at (some 89) (i := 1) (v := ?_) rfl rfl (by kernel_rfl) (by kernel_rfl) (by kernel_rfl) (fun _ _ _ h => h) (Or.inl ⟨by kernel_rfl, ?_⟩) hHeld ?_
            rotate_left
            · intro wz hSw; have a0 : wz.cell? ⟨g7, 0, none⟩ = some (.int .i64 1) := (hSw.bk (b := g7) (t := 34) (cs := #[.int .i64 1, .string xa, .string xb, .int .i64 xn, .int .i64 xm]) (by simp)).cell 0; have a1 : wz.cell? ⟨g7, 1, none⟩ = some (.string xa) := (hSw.bk (b := g7) (t := 34) (cs := #[.int .i64 1, .string xa, .string xb, .int .i64 xn, .int .i64 xm]) (by simp)).cell 1; have a2 : wz.cell? ⟨g7, 2, none⟩ = some (.string xb) := (hSw.bk (b := g7) (t := 34) (cs := #[.int .i64 1, .string xa, .string xb, .int .i64 xn, .int .i64 xm]) (by simp)).cell 2; have b0 : wz.cell? ⟨g8, 0, none⟩ = some (.int .i64 3) := hSw.head.cell 0; have b1 : wz.cell? ⟨g8, 1, none⟩ = some (.string ya) := hSw.head.cell 1; go_simp; try (with_reducible rfl)
            try simp only [Act.put, List.setIfInBounds_toArray, List.set_cons_zero, List.set_cons_succ, List.getElem_toArray, List.getElem_cons_succ, List.getElem_cons_zero]
            refine take_at (some 90) (i := 2) (v := ?_) rfl rfl (by kernel_rfl) (by kernel_rfl) (by kernel_rfl) (fun _ _ _ h => h) (Or.inl ⟨by kernel_rfl, ?_⟩) hHeld ?_
            rotate_left
            · intro wz hSw; have a0 : wz.cell? ⟨g7, 0, none⟩ = some (.int .i64 1) := (hSw.bk (b := g7) (t := 34) (cs := #[.int .i64 1, .string xa, .string xb, .int .i64 xn, .int .i64 xm]) (by simp)).cell 0; have a1 : wz.cell? ⟨g7, 1, none⟩ = some (.string xa) := (hSw.bk (b := g7) (t := 34) (cs := #[.int .i64 1, .string xa, .string xb, .int .i64 xn, .int .i64 xm]) (by simp)).cell 1; have a2 : wz.cell? ⟨g7, 2, none⟩ = some (.string xb) := (hSw.bk (b := g7) (t := 34) (cs := #[.int .i64 1, .string xa, .string xb, .int .i64 xn, .int .i64 xm]) (by simp)).cell 2; have b0 : wz.cell? ⟨g8, 0, none⟩ = some (.int .i64 3) := hSw.head.cell 0; have b1 : wz.cell? ⟨g8, 1, none⟩ = some (.string ya) := hSw.head.cell 1; go_simp; try (with_reducible rfl)
            try simp only [Act.put, List.setIfInBounds_toArray, List.set_cons_zero, List.set_cons_succ, List.getElem_toArray, List.getElem_cons_succ, List.getElem_cons_zero]
            refine take_at (some 91) (i := 3) (v := ?_) rfl rfl (by kernel_rfl) (by kernel_rfl) (by kernel_rfl) (fun _ _ _ h => h) (Or.inl ⟨by kernel_rfl, ?_⟩) hHeld ?_
            rotate_left
            · intro wz hSw; go_simp; try (with_reducible rfl)
            try simp only [Act.put, List.setIfInBounds_toArray, List.set_cons_zero, List.set_cons_succ, List.getElem_toArray, List.getElem_cons_succ, List.getElem_cons_zero]
            refine take_at (some 92) (i := 4) (v := ?_) rfl rfl (by kernel_rfl) (by kernel_rfl) (by kernel_rfl) (fun _ _ _ h => h) (Or.inl ⟨by kernel_rfl, ?_⟩) hHeld ?_
            rotate_left
            · intro wz hSw; have a0 : wz.cell? ⟨g7, 0, none⟩ = some (.int .i64 1) := (hSw.bk (b := g7) (t := 34) (cs := #[.int .i64 1, .string xa, .string xb, .int .i64 xn, .int .i64 xm]) (by simp)).cell 0; have a1 : wz.cell? ⟨g7, 1, none⟩ = some (.string xa) := (hSw.bk (b := g7) (t := 34) (cs := #[.int .i64 1, .string xa, .string xb, .int .i64 xn, .int .i64 xm]) (by simp)).cell 1; have a2 : wz.cell? ⟨g7, 2, none⟩ = some (.string xb) := (hSw.bk (b := g7) (t := 34) (cs := #[.int .i64 1, .string xa, .string xb, .int .i64 xn, .int .i64 xm]) (by simp)).cell 2; have b0 : wz.cell? ⟨g8, 0, none⟩ = some (.int .i64 3) := hSw.head.cell 0; have b1 : wz.cell? ⟨g8, 1, none⟩ = some (.string ya) := hSw.head.cell 1; go_simp; try (with_reducible rfl)
            try simp only [Act.put, List.setIfInBounds_toArray, List.set_cons_zero, List.set_cons_succ, List.getElem_toArray, List.getElem_cons_succ, List.getElem_cons_zero]
            refine take_at (some 93) (i := 5) (v := ?_) rfl rfl (by kernel_rfl) (by kernel_rfl) (by kernel_rfl) (fun _ _ _ h => h) (Or.inl ⟨by kernel_rfl, ?_⟩) hHeld ?_
            rotate_left
            · intro wz hSw; have a0 : wz.cell? ⟨g7, 0, none⟩ = some (.int .i64 1) := (hSw.bk (b := g7) (t := 34) (cs := #[.int .i64 1, .string xa, .string xb, .int .i64 xn, .int .i64 xm]) (by simp)).cell 0; have a1 : wz.cell? ⟨g7, 1, none⟩ = some (.string xa) := (hSw.bk (b := g7) (t := 34) (cs := #[.int .i64 1, .string xa, .string xb, .int .i64 xn, .int .i64 xm]) (by simp)).cell 1; have a2 : wz.cell? ⟨g7, 2, none⟩ = some (.string xb) := (hSw.bk (b := g7) (t := 34) (cs := #[.int .i64 1, .string xa, .string xb, .int .i64 xn, .int .i64 xm]) (by simp)).cell 2; have b0 : wz.cell? ⟨g8, 0, none⟩ = some (.int .i64 3) := hSw.head.cell 0; have b1 : wz.cell? ⟨g8, 1, none⟩ = some (.string ya) := hSw.head.cell 1; go_simp; try (with_reducible rfl)
            try simp only [Act.put, List.setIfInBounds_toArray, List.set_cons_zero, List.set_cons_succ, List.getElem_toArray, List.getElem_cons_succ, List.getElem_cons_zero]
            refine take_at (some 94) (i := 6) (v := ?_) rfl rfl (by kernel_rfl) (by kernel_rfl) (by kernel_rfl) (fun _ _ _ h => h) (Or.inl ⟨by kernel_rfl, ?_⟩) hHeld ?_
            rotate_left
            · intro wz hSw; have a0 : wz.cell? ⟨g7, 0, none⟩ = some (.int .i64 1) := (hSw.bk (b := g7) (t := 34) (cs := #[.int .i64 1, .string xa, .string xb, .int .i64 xn, .int .i64 xm]) (by simp)).cell 0; have a1 : wz.cell? ⟨g7, 1, none⟩ = some (.string xa) := (hSw.bk (b := g7) (t := 34) (cs := #[.int .i64 1, .string xa, .string xb, .int .i64 xn, .int .i64 xm]) (by simp)).cell 1; have a2 : wz.cell? ⟨g7, 2, none⟩ = some (.string xb) := (hSw.bk (b := g7) (t := 34) (cs := #[.int .i64 1, .string xa, .string xb, .int .i64 xn, .int .i64 xm]) (by simp)).cell 2; have b0 : wz.cell? ⟨g8, 0, none⟩ = some (.int .i64 3) := hSw.head.cell 0; have b1 : wz.cell? ⟨g8, 1, none⟩ = some (.string ya) := hSw.head.cell 1; go_simp; try (with_reducible rfl)
            try simp only [Act.put, List.setIfInBounds_toArray, List.set_cons_zero, List.set_cons_succ, List.getElem_toArray, List.getElem_cons_succ, List.getElem_cons_zero]
            refine take_at (some 95) (i := 7) (v := ?_) rfl rfl (by kernel_rfl) (by kernel_rfl) (by kernel_rfl) (fun _ _ _ h => h) (Or.inl ⟨by kernel_rfl, ?_⟩) hHeld ?_
            rotate_left
            · intro wz hSw; go_simp; try (with_reducible rfl)
            try simp only [Act.put, List.setIfInBounds_toArray, List.set_cons_zero, List.set_cons_succ, List.getElem_toArray, List.getElem_cons_succ, List.getElem_cons_zero]
            refine take_at (some 96) (i := 8) (v := ?_) rfl rfl (by kernel_rfl) (by kernel_rfl) (by kernel_rfl) (fun _ _ _ h => h) (Or.inl ⟨by kernel_rfl, ?_⟩) hHeld ?_
            rotate_left
            · intro wz hSw; go_simp; try (with_reducible rfl)
            try simp only [Act.put, List.setIfInBounds_toArray, List.set_cons_zero, List.set_cons_succ, List.getElem_toArray, List.getElem_cons_succ, List.getElem_cons_zero]
            refine take_at (some 97) (i := 9) (v := ?_) rfl rfl (by kernel_rfl) (by kernel_rfl) (by kernel_rfl) (fun _ _ _ h => h) (Or.inl ⟨by kernel_rfl, ?_⟩) hHeld ?_
            rotate_left
            · intro wz hSw; go_simp; try (with_reducible rfl)
            try simp only [Act.put, List.setIfInBounds_toArray, List.set_cons_zero, List.set_cons_succ, List.getElem_toArray, List.getElem_cons_succ, List.getElem_cons_zero]
            refine take_at (some 98) (i := 10) (v := ?_) rfl rfl (by kernel_rfl) (by kernel_rfl) (by kernel_rfl) (fun _ _ _ h => h) (Or.inl ⟨by kernel_rfl, ?_⟩) hHeld ?_
            rotate_left
            · intro wz hSw; have a0 : wz.cell? ⟨g7, 0, none⟩ = some (.int .i64 1) := (hSw.bk (b := g7) (t := 34) (cs := #[.int .i64 1, .string xa, .string xb, .int .i64 xn, .int .i64 xm]) (by simp)).cell 0; have a1 : wz.cell? ⟨g7, 1, none⟩ = some (.string xa) := (hSw.bk (b := g7) (t := 34) (cs := #[.int .i64 1, .string xa, .string xb, .int .i64 xn, .int .i64 xm]) (by simp)).cell 1; have a2 : wz.cell? ⟨g7, 2, none⟩ = some (.string xb) := (hSw.bk (b := g7) (t := 34) (cs := #[.int .i64 1, .string xa, .string xb, .int .i64 xn, .int .i64 xm]) (by simp)).cell 2; have b0 : wz.cell? ⟨g8, 0, none⟩ = some (.int .i64 3) := hSw.head.cell 0; have b1 : wz.cell? ⟨g8, 1, none⟩ = some (.string ya) := hSw.head.cell 1; have hBx := HSB.out.low hSw; obtain ⟨x0, x1, x2, x3, x4, x5, x6, x7⟩ := HCX.out wz hBx; obtain ⟨q0, q1, q2, q3, q4, q5, q6, q7⟩ := HCY.out wz hBx; simp only [Nat.zero_mul, Nat.one_mul, Nat.add_zero] at x0 x1 x2 x3 x4 x5 x6 x7 q0 q1 q2 q3 q4 q5 q6 q7; clear hBx; go_simp; try (with_reducible rfl)
            try simp only [Act.put, List.setIfInBounds_toArray, List.set_cons_zero, List.set_cons_succ, List.getElem_toArray, List.getElem_cons_succ, List.getElem_cons_zero]
            refine take_at (some 99) (i := 11) (v := ?_) rfl rfl (by kernel_rfl) (by kernel_rfl) (by kernel_rfl) (fun _ _ _ h => h) (Or.inl ⟨by kernel_rfl, ?_⟩) hHeld ?_
            rotate_left
            · intro wz hSw; have a0 : wz.cell? ⟨g7, 0, none⟩ = some (.int .i64 1) := (hSw.bk (b := g7) (t := 34) (cs := #[.int .i64 1, .string xa, .string xb, .int .i64 xn, .int .i64 xm]) (by simp)).cell 0; have a1 : wz.cell? ⟨g7, 1, none⟩ = some (.string xa) := (hSw.bk (b := g7) (t := 34) (cs := #[.int .i64 1, .string xa, .string xb, .int .i64 xn, .int .i64 xm]) (by simp)).cell 1; have a2 : wz.cell? ⟨g7, 2, none⟩ = some (.string xb) := (hSw.bk (b := g7) (t := 34) (cs := #[.int .i64 1, .string xa, .string xb, .int .i64 xn, .int .i64 xm]) (by simp)).cell 2; have b0 : wz.cell? ⟨g8, 0, none⟩ = some (.int .i64 3) := hSw.head.cell 0; have b1 : wz.cell? ⟨g8, 1, none⟩ = some (.string ya) := hSw.head.cell 1; have hBx := HSB.out.low hSw; obtain ⟨x0, x1, x2, x3, x4, x5, x6, x7⟩ := HCX.out wz hBx; obtain ⟨q0, q1, q2, q3, q4, q5, q6, q7⟩ := HCY.out wz hBx; simp only [Nat.zero_mul, Nat.one_mul, Nat.add_zero] at x0 x1 x2 x3 x4 x5 x6 x7 q0 q1 q2 q3 q4 q5 q6 q7; clear hBx; go_simp; try (with_reducible rfl)
            try simp only [Act.put, List.setIfInBounds_toArray, List.set_cons_zero, List.set_cons_succ, List.getElem_toArray, List.getElem_cons_succ, List.getElem_cons_zero]
            refine take_at (some 100) (i := 12) (v := ?_) rfl rfl (by kernel_rfl) (by kernel_rfl) (by kernel_rfl) (fun _ _ _ h => h) (Or.inl ⟨by kernel_rfl, ?_⟩) hHeld ?_
            rotate_left
            · intro wz hSw; have a0 : wz.cell? ⟨g7, 0, none⟩ = some (.int .i64 1) := (hSw.bk (b := g7) (t := 34) (cs := #[.int .i64 1, .string xa, .string xb, .int .i64 xn, .int .i64 xm]) (by simp)).cell 0; have a1 : wz.cell? ⟨g7, 1, none⟩ = some (.string xa) := (hSw.bk (b := g7) (t := 34) (cs := #[.int .i64 1, .string xa, .string xb, .int .i64 xn, .int .i64 xm]) (by simp)).cell 1; have a2 : wz.cell? ⟨g7, 2, none⟩ = some (.string xb) := (hSw.bk (b := g7) (t := 34) (cs := #[.int .i64 1, .string xa, .string xb, .int .i64 xn, .int .i64 xm]) (by simp)).cell 2; have b0 : wz.cell? ⟨g8, 0, none⟩ = some (.int .i64 3) := hSw.head.cell 0; have b1 : wz.cell? ⟨g8, 1, none⟩ = some (.string ya) := hSw.head.cell 1; have hBx := HSB.out.low hSw; obtain ⟨x0, x1, x2, x3, x4, x5, x6, x7⟩ := HCX.out wz hBx; obtain ⟨q0, q1, q2, q3, q4, q5, q6, q7⟩ := HCY.out wz hBx; simp only [Nat.zero_mul, Nat.one_mul, Nat.add_zero] at x0 x1 x2 x3 x4 x5 x6 x7 q0 q1 q2 q3 q4 q5 q6 q7; clear hBx; go_simp; try (with_reducible rfl)
            try simp only [Act.put, List.setIfInBounds_toArray, List.set_cons_zero, List.set_cons_succ, List.getElem_toArray, List.getElem_cons_succ, List.getElem_cons_zero]
            refine take_at (some 101) (i := 13) (v := ?_) rfl rfl (by kernel_rfl) (by kernel_rfl) (by kernel_rfl) (fun _ _ _ h => h) (Or.inl ⟨by kernel_rfl, ?_⟩) hHeld ?_
            rotate_left
            · intro wz hSw; have a0 : wz.cell? ⟨g7, 0, none⟩ = some (.int .i64 1) := (hSw.bk (b := g7) (t := 34) (cs := #[.int .i64 1, .string xa, .string xb, .int .i64 xn, .int .i64 xm]) (by simp)).cell 0; have a1 : wz.cell? ⟨g7, 1, none⟩ = some (.string xa) := (hSw.bk (b := g7) (t := 34) (cs := #[.int .i64 1, .string xa, .string xb, .int .i64 xn, .int .i64 xm]) (by simp)).cell 1; have a2 : wz.cell? ⟨g7, 2, none⟩ = some (.string xb) := (hSw.bk (b := g7) (t := 34) (cs := #[.int .i64 1, .string xa, .string xb, .int .i64 xn, .int .i64 xm]) (by simp)).cell 2; have b0 : wz.cell? ⟨g8, 0, none⟩ = some (.int .i64 3) := hSw.head.cell 0; have b1 : wz.cell? ⟨g8, 1, none⟩ = some (.string ya) := hSw.head.cell 1; have hBx := HSB.out.low hSw; obtain ⟨x0, x1, x2, x3, x4, x5, x6, x7⟩ := HCX.out wz hBx; obtain ⟨q0, q1, q2, q3, q4, q5, q6, q7⟩ := HCY.out wz hBx; simp only [Nat.zero_mul, Nat.one_mul, Nat.add_zero] at x0 x1 x2 x3 x4 x5 x6 x7 q0 q1 q2 q3 q4 q5 q6 q7; clear hBx; go_simp; try (with_reducible rfl)
            try simp only [Act.put, List.setIfInBounds_toArray, List.set_cons_zero, List.set_cons_succ, List.getElem_toArray, List.getElem_cons_succ, List.getElem_cons_zero]
            refine take_at (some 102) (i := 14) (v := ?_) rfl rfl (by kernel_rfl) (by kernel_rfl) (by kernel_rfl) (fun _ _ _ h => h) (Or.inl ⟨by kernel_rfl, ?_⟩) hHeld ?_
            rotate_left
            · intro wz hSw; go_simp; try (with_reducible rfl)
            try simp only [Act.put, List.setIfInBounds_toArray, List.set_cons_zero, List.set_cons_succ, List.getElem_toArray, List.getElem_cons_succ, List.getElem_cons_zero]
            refine take_at (some 103) (i := 15) (v := ?_) rfl rfl (by kernel_rfl) (by kernel_rfl) (by kernel_rfl) (fun _ _ _ h => h) (Or.inl ⟨by kernel_rfl, ?_⟩) hHeld ?_
            rotate_left
            · intro wz hSw; have a0 : wz.cell? ⟨g7, 0, none⟩ = some (.int .i64 1) := (hSw.bk (b := g7) (t := 34) (cs := #[.int .i64 1, .string xa, .string xb, .int .i64 xn, .int .i64 xm]) (by simp)).cell 0; have a1 : wz.cell? ⟨g7, 1, none⟩ = some (.string xa) := (hSw.bk (b := g7) (t := 34) (cs := #[.int .i64 1, .string xa, .string xb, .int .i64 xn, .int .i64 xm]) (by simp)).cell 1; have a2 : wz.cell? ⟨g7, 2, none⟩ = some (.string xb) := (hSw.bk (b := g7) (t := 34) (cs := #[.int .i64 1, .string xa, .string xb, .int .i64 xn, .int .i64 xm]) (by simp)).cell 2; have b0 : wz.cell? ⟨g8, 0, none⟩ = some (.int .i64 3) := hSw.head.cell 0; have b1 : wz.cell? ⟨g8, 1, none⟩ = some (.string ya) := hSw.head.cell 1; have hBx := HSB.out.low hSw; obtain ⟨x0, x1, x2, x3, x4, x5, x6, x7⟩ := HCX.out wz hBx; obtain ⟨q0, q1, q2, q3, q4, q5, q6, q7⟩ := HCY.out wz hBx; simp only [Nat.zero_mul, Nat.one_mul, Nat.add_zero] at x0 x1 x2 x3 x4 x5 x6 x7 q0 q1 q2 q3 q4 q5 q6 q7; clear hBx; go_simp; try (with_reducible rfl)
            try simp only [Act.put, List.setIfInBounds_toArray, List.set_cons_zero, List.set_cons_succ, List.getElem_toArray, List.getElem_cons_succ, List.getElem_cons_zero]
            refine take_at (some 104) (i := 16) (v := ?_) rfl rfl (by kernel_rfl) (by kernel_rfl) (by kernel_rfl) (fun _ _ _ h => h) (Or.inl ⟨by kernel_rfl, ?_⟩) hHeld ?_
            rotate_left
            · intro wz hSw; have a0 : wz.cell? ⟨g7, 0, none⟩ = some (.int .i64 1) := (hSw.bk (b := g7) (t := 34) (cs := #[.int .i64 1, .string xa, .string xb, .int .i64 xn, .int .i64 xm]) (by simp)).cell 0; have a1 : wz.cell? ⟨g7, 1, none⟩ = some (.string xa) := (hSw.bk (b := g7) (t := 34) (cs := #[.int .i64 1, .string xa, .string xb, .int .i64 xn, .int .i64 xm]) (by simp)).cell 1; have a2 : wz.cell? ⟨g7, 2, none⟩ = some (.string xb) := (hSw.bk (b := g7) (t := 34) (cs := #[.int .i64 1, .string xa, .string xb, .int .i64 xn, .int .i64 xm]) (by simp)).cell 2; have b0 : wz.cell? ⟨g8, 0, none⟩ = some (.int .i64 3) := hSw.head.cell 0; have b1 : wz.cell? ⟨g8, 1, none⟩ = some (.string ya) := hSw.head.cell 1; have hBx := HSB.out.low hSw; obtain ⟨x0, x1, x2, x3, x4, x5, x6, x7⟩ := HCX.out wz hBx; obtain ⟨q0, q1, q2, q3, q4, q5, q6, q7⟩ := HCY.out wz hBx; simp only [Nat.zero_mul, Nat.one_mul, Nat.add_zero] at x0 x1 x2 x3 x4 x5 x6 x7 q0 q1 q2 q3 q4 q5 q6 q7; clear hBx; go_simp; try (with_reducible rfl)
            try simp only [Act.put, List.setIfInBounds_toArray, List.set_cons_zero, List.set_cons_succ, List.getElem_toArray, List.getElem_cons_succ, List.getElem_cons_zero]
            refine take_at (some 105) (i := 17) (v := ?_) rfl rfl (by kernel_rfl) (by kernel_rfl) (by kernel_rfl) (fun _ _ _ h => h) (Or.inl ⟨by kernel_rfl, ?_⟩) hHeld ?_
            rotate_left
            · intro wz hSw; have a0 : wz.cell? ⟨g7, 0, none⟩ = some (.int .i64 1) := (hSw.bk (b := g7) (t := 34) (cs := #[.int .i64 1, .string xa, .string xb, .int .i64 xn, .int .i64 xm]) (by simp)).cell 0; have a1 : wz.cell? ⟨g7, 1, none⟩ = some (.string xa) := (hSw.bk (b := g7) (t := 34) (cs := #[.int .i64 1, .string xa, .string xb, .int .i64 xn, .int .i64 xm]) (by simp)).cell 1; have a2 : wz.cell? ⟨g7, 2, none⟩ = some (.string xb) := (hSw.bk (b := g7) (t := 34) (cs := #[.int .i64 1, .string xa, .string xb, .int .i64 xn, .int .i64 xm]) (by simp)).cell 2; have b0 : wz.cell? ⟨g8, 0, none⟩ = some (.int .i64 3) := hSw.head.cell 0; have b1 : wz.cell? ⟨g8, 1, none⟩ = some (.string ya) := hSw.head.cell 1; have hBx := HSB.out.low hSw; obtain ⟨x0, x1, x2, x3, x4, x5, x6, x7⟩ := HCX.out wz hBx; obtain ⟨q0, q1, q2, q3, q4, q5, q6, q7⟩ := HCY.out wz hBx; simp only [Nat.zero_mul, Nat.one_mul, Nat.add_zero] at x0 x1 x2 x3 x4 x5 x6 x7 q0 q1 q2 q3 q4 q5 q6 q7; clear hBx; go_simp; try (with_reducible rfl)
            try simp only [Act.put, List.setIfInBounds_toArray, List.set_cons_zero, List.set_cons_succ, List.getElem_toArray, List.getElem_cons_succ, List.getElem_cons_zero]
            refine wpAnyH_ready (rs := [18]) (by kernel_rfl) (by simp) (AllReadyH.cons rfl (fun K hK => ?_) AllReadyH.nil)
            rw [if_pos (by kernel_rfl)]
            go_simp
            refine (HGO2.out _ _ hHeld).mono ?_
            rintro e z18 ⟨rfl, hz18⟩
            try dsimp only
            refine hK.out _ _ hz18 (fun hHeld => ?_)
            try simp only [Act.put, List.setIfInBounds_toArray, List.set_cons_zero, List.set_cons_succ, List.getElem_toArray, List.getElem_cons_succ, List.getElem_cons_zero]
            refine take_at (some 107) (i := 19) (v := ?_) rfl rfl (by kernel_rfl) (by kernel_rfl) (by kernel_rfl) (fun _ _ _ h => h) (Or.inl ⟨by kernel_rfl, ?_⟩) hHeld ?_
            rotate_left
            · intro wz hSw; go_simp; try (with_reducible rfl)
            try simp only [Act.put, List.setIfInBounds_toArray, List.set_cons_zero, List.set_cons_succ, List.getElem_toArray, List.getElem_cons_succ, List.getElem_cons_zero]
            refine take_at (some 108) (i := 20) (v := ?_) rfl rfl (by kernel_rfl) (by kernel_rfl) (by kernel_rfl) (fun _ _ _ h => h) (Or.inl ⟨by kernel_rfl, ?_⟩) hHeld ?_
            rotate_left
            · intro wz hSw; go_simp; try (with_reducible rfl)
            try simp only [Act.put, List.setIfInBounds_toArray, List.set_cons_zero, List.set_cons_succ, List.getElem_toArray, List.getElem_cons_succ, List.getElem_cons_zero]
            refine take_at (some 109) (i := 21) (v := ?_) rfl rfl (by kernel_rfl) (by kernel_rfl) (by kernel_rfl) (fun _ _ _ h => h) (Or.inl ⟨by kernel_rfl, ?_⟩) hHeld ?_
            rotate_left
            · intro wz hSw; have a0 : wz.cell? ⟨g7, 0, none⟩ = some (.int .i64 1) := (hSw.bk (b := g7) (t := 34) (cs := #[.int .i64 1, .string xa, .string xb, .int .i64 xn, .int .i64 xm]) (by simp)).cell 0; have a1 : wz.cell? ⟨g7, 1, none⟩ = some (.string xa) := (hSw.bk (b := g7) (t := 34) (cs := #[.int .i64 1, .string xa, .string xb, .int .i64 xn, .int .i64 xm]) (by simp)).cell 1; have a2 : wz.cell? ⟨g7, 2, none⟩ = some (.string xb) := (hSw.bk (b := g7) (t := 34) (cs := #[.int .i64 1, .string xa, .string xb, .int .i64 xn, .int .i64 xm]) (by simp)).cell 2; have b0 : wz.cell? ⟨g8, 0, none⟩ = some (.int .i64 3) := hSw.head.cell 0; have b1 : wz.cell? ⟨g8, 1, none⟩ = some (.string ya) := hSw.head.cell 1; go_simp; try (with_reducible rfl)
            try simp only [Act.put, List.setIfInBounds_toArray, List.set_cons_zero, List.set_cons_succ, List.getElem_toArray, List.getElem_cons_succ, List.getElem_cons_zero]
            refine take_at (some 110) (i := 22) (v := ?_) rfl rfl (by kernel_rfl) (by kernel_rfl) (by kernel_rfl) (fun _ _ _ h => h) (Or.inl ⟨by kernel_rfl, ?_⟩) hHeld ?_
            rotate_left
            · intro wz hSw; have a0 : wz.cell? ⟨g7, 0, none⟩ = some (.int .i64 1) := (hSw.bk (b := g7) (t := 34) (cs := #[.int .i64 1, .string xa, .string xb, .int .i64 xn, .int .i64 xm]) (by simp)).cell 0; have a1 : wz.cell? ⟨g7, 1, none⟩ = some (.string xa) := (hSw.bk (b := g7) (t := 34) (cs := #[.int .i64 1, .string xa, .string xb, .int .i64 xn, .int .i64 xm]) (by simp)).cell 1; have a2 : wz.cell? ⟨g7, 2, none⟩ = some (.string xb) := (hSw.bk (b := g7) (t := 34) (cs := #[.int .i64 1, .string xa, .string xb, .int .i64 xn, .int .i64 xm]) (by simp)).cell 2; have b0 : wz.cell? ⟨g8, 0, none⟩ = some (.int .i64 3) := hSw.head.cell 0; have b1 : wz.cell? ⟨g8, 1, none⟩ = some (.string ya) := hSw.head.cell 1; go_simp; try (with_reducible rfl)
            try simp only [Act.put, List.setIfInBounds_toArray, List.set_cons_zero, List.set_cons_succ, List.getElem_toArray, List.getElem_cons_succ, List.getElem_cons_zero]
            refine take_at (some 111) (i := 23) (v := ?_) rfl rfl (by kernel_rfl) (by kernel_rfl) (by kernel_rfl) (fun _ _ _ h => h) (Or.inl ⟨by kernel_rfl, ?_⟩) hHeld ?_
            rotate_left
            · intro wz hSw; have a0 : wz.cell? ⟨g7, 0, none⟩ = some (.int .i64 1) := (hSw.bk (b := g7) (t := 34) (cs := #[.int .i64 1, .string xa, .string xb, .int .i64 xn, .int .i64 xm]) (by simp)).cell 0; have a1 : wz.cell? ⟨g7, 1, none⟩ = some (.string xa) := (hSw.bk (b := g7) (t := 34) (cs := #[.int .i64 1, .string xa, .string xb, .int .i64 xn, .int .i64 xm]) (by simp)).cell 1; have a2 : wz.cell? ⟨g7, 2, none⟩ = some (.string xb) := (hSw.bk (b := g7) (t := 34) (cs := #[.int .i64 1, .string xa, .string xb, .int .i64 xn, .int .i64 xm]) (by simp)).cell 2; have b0 : wz.cell? ⟨g8, 0, none⟩ = some (.int .i64 3) := hSw.head.cell 0; have b1 : wz.cell? ⟨g8, 1, none⟩ = some (.string ya) := hSw.head.cell 1; go_simp; try (with_reducible rfl)
            try simp only [Act.put, List.setIfInBounds_toArray, List.set_cons_zero, List.set_cons_succ, List.getElem_toArray, List.getElem_cons_succ, List.getElem_cons_zero]
            refine take_at (some 112) (i := 24) (v := ?_) rfl rfl (by kernel_rfl) (by kernel_rfl) (by kernel_rfl) (fun _ _ _ h => h) (Or.inl ⟨by kernel_rfl, ?_⟩) hHeld ?_
            rotate_left
            · intro wz hSw; go_simp; try (with_reducible rfl)
            try simp only [Act.put, List.setIfInBounds_toArray, List.set_cons_zero, List.set_cons_succ, List.getElem_toArray, List.getElem_cons_succ, List.getElem_cons_zero]
            refine take_at (some 113) (i := 25) (v := ?_) rfl rfl (by kernel_rfl) (by kernel_rfl) (by kernel_rfl) (fun _ _ _ h => h) (Or.inl ⟨by kernel_rfl, ?_⟩) hHeld ?_
            rotate_left
            · intro wz hSw; go_simp; try (with_reducible rfl)
            try simp only [Act.put, List.setIfInBounds_toArray, List.set_cons_zero, List.set_cons_succ, List.getElem_toArray, List.getElem_cons_succ, List.getElem_cons_zero]
            refine take_at (some 114) (i := 26) (v := undef) rfl rfl (by kernel_rfl) (by kernel_rfl) (by kernel_rfl) (fun _ _ _ h => h) (Or.inr ⟨by kernel_rfl, rfl⟩) hHeld ?_
            try simp only [Act.put, List.setIfInBounds_toArray, List.set_cons_zero, List.set_cons_succ, List.getElem_toArray, List.getElem_cons_succ, List.getElem_cons_zero]
            refine take_at (some 115) (i := 27) (v := undef) rfl rfl (by kernel_rfl) (by kernel_rfl) (by kernel_rfl) (fun _ _ _ h => h) (Or.inr ⟨by kernel_rfl, rfl⟩) hHeld ?_
            try simp only [Act.put, List.setIfInBounds_toArray, List.set_cons_zero, List.set_cons_succ, List.getElem_toArray, List.getElem_cons_succ, List.getElem_cons_zero]
            refine take_at (some 116) (i := 28) (v := undef) rfl rfl (by kernel_rfl) (by kernel_rfl) (by kernel_rfl) (fun _ _ _ h => h) (Or.inr ⟨by kernel_rfl, rfl⟩) hHeld ?_
            try simp only [Act.put, List.setIfInBounds_toArray, List.set_cons_zero, List.set_cons_succ, List.getElem_toArray, List.getElem_cons_succ, List.getElem_cons_zero]
            refine take_at (some 117) (i := 29) (v := undef) rfl rfl (by kernel_rfl) (by kernel_rfl) (by kernel_rfl) (fun _ _ _ h => h) (Or.inr ⟨by kernel_rfl, rfl⟩) hHeld ?_
            try simp only [Act.put, List.setIfInBounds_toArray, List.set_cons_zero, List.set_cons_succ, List.getElem_toArray, List.getElem_cons_succ, List.getElem_cons_zero]
            refine take_at (some 118) (i := 30) (v := undef) rfl rfl (by kernel_rfl) (by kernel_rfl) (by kernel_rfl) (fun _ _ _ h => h) (Or.inr ⟨by kernel_rfl, rfl⟩) hHeld ?_
            try simp only [Act.put, List.setIfInBounds_toArray, List.set_cons_zero, List.set_cons_succ, List.getElem_toArray, List.getElem_cons_succ, List.getElem_cons_zero]
            refine take_at (some 119) (i := 31) (v := undef) rfl rfl (by kernel_rfl) (by kernel_rfl) (by kernel_rfl) (fun _ _ _ h => h) (Or.inr ⟨by kernel_rfl, rfl⟩) hHeld ?_
            try simp only [Act.put, List.setIfInBounds_toArray, List.set_cons_zero, List.set_cons_succ, List.getElem_toArray, List.getElem_cons_succ, List.getElem_cons_zero]
            refine take_at (some 120) (i := 32) (v := undef) rfl rfl (by kernel_rfl) (by kernel_rfl) (by kernel_rfl) (fun _ _ _ h => h) (Or.inr ⟨by kernel_rfl, rfl⟩) hHeld ?_
            try simp only [Act.put, List.setIfInBounds_toArray, List.set_cons_zero, List.set_cons_succ, List.getElem_toArray, List.getElem_cons_succ, List.getElem_cons_zero]
            refine take_at (some 121) (i := 33) (v := undef) rfl rfl (by kernel_rfl) (by kernel_rfl) (by kernel_rfl) (fun _ _ _ h => h) (Or.inr ⟨by kernel_rfl, rfl⟩) hHeld ?_
            try simp only [Act.put, List.setIfInBounds_toArray, List.set_cons_zero, List.set_cons_succ, List.getElem_toArray, List.getElem_cons_succ, List.getElem_cons_zero]
            refine take_at (some 122) (i := 34) (v := undef) rfl rfl (by kernel_rfl) (by kernel_rfl) (by kernel_rfl) (fun _ _ _ h => h) (Or.inr ⟨by kernel_rfl, rfl⟩) hHeld ?_
            try simp only [Act.put, List.setIfInBounds_toArray, List.set_cons_zero, List.set_cons_succ, List.getElem_toArray, List.getElem_cons_succ, List.getElem_cons_zero]
            refine take_at (some 123) (i := 35) (v := undef) rfl rfl (by kernel_rfl) (by kernel_rfl) (by kernel_rfl) (fun _ _ _ h => h) (Or.inr ⟨by kernel_rfl, rfl⟩) hHeld ?_
            try simp only [Act.put, List.setIfInBounds_toArray, List.set_cons_zero, List.set_cons_succ, List.getElem_toArray, List.getElem_cons_succ, List.getElem_cons_zero]
            refine take_at (some 124) (i := 36) (v := ?_) rfl rfl (by kernel_rfl) (by kernel_rfl) (by kernel_rfl) (fun _ _ _ h => h) (Or.inl ⟨by kernel_rfl, ?_⟩) hHeld ?_
            rotate_left
            · intro wz hSw; go_simp; try (with_reducible rfl)
            try simp only [Act.put, List.setIfInBounds_toArray, List.set_cons_zero, List.set_cons_succ, List.getElem_toArray, List.getElem_cons_succ, List.getElem_cons_zero]
            refine take_at (some 14) (i := 37) (v := ?_) rfl rfl (by kernel_rfl) (by kernel_rfl) (by kernel_rfl) (fun _ _ _ h => h) (Or.inl ⟨by kernel_rfl, ?_⟩) hHeld ?_
            rotate_left
            · intro wz hSw; go_simp; try (with_reducible rfl)
            try simp only [Act.put, List.setIfInBounds_toArray, List.set_cons_zero, List.set_cons_succ, List.getElem_toArray, List.getElem_cons_succ, List.getElem_cons_zero]
            refine wpAnyH_done (by kernel_rfl) ?_ _
            refine gen_qS (fun y => Ss u2 mb [] sb v s2 [(g8, 34, #[.int .i64 3, .string ya, .string yb, .int .i64 yn, .int .i64 ym]), (g7, 34, #[.int .i64 1, .string xa, .string xb, .int .i64 xn, .int .i64 xm])] y) hHeld (fun yz hyz => ?_)
            have HYZ := Lib.hid hyz
            clear hyz hHeld HY9
            have a1 : yz.cell? ⟨g7, 1, none⟩ = some (.string xa) := (HYZ.out.bk (b := g7) (t := 34) (cs := #[.int .i64 1, .string xa, .string xb, .int .i64 xn, .int .i64 xm]) (by simp)).cell 1
            go_wp2
            go_ret
            exact ⟨rfl, HSB.out.low HYZ.out⟩
          | false =>
            have hpe := HPE.out
            have hal := HAL.out
            cases al with
            | false =>
              obtain rfl : kn = false := HKE.out
              obtain rfl := HW0.out rfl
              have hem : eS.toList.isEmpty = true := by unfold eS; rw [ByteArray.toList_eq]; rfl
              have hem2 : (eS.toList == []) = true := by unfold eS; rw [ByteArray.toList_eq]; rfl
              try simp only [List.cons_append, List.nil_append]
              refine wp_region_held_drew (S := fun wz => Ss u2 mb [] sb v s2 [(g8, 34, #[.int .i64 3, .string ya, .string yb, .int .i64 yn, .int .i64 ym]), (g7, 34, #[.int .i64 1, .string xa, .string xb, .int .i64 xn, .int .i64 xm])] wz) (by kernel_rfl) (HY9.out.on (Below.refl _ _).drew) (fun hHeld => ?_)
              refine take_at (some 88) (i := 0) (v := ?_) rfl rfl (by kernel_rfl) (by kernel_rfl) (by kernel_rfl) (fun _ _ _ h => h) (Or.inl ⟨by kernel_rfl, ?_⟩) hHeld ?_
              rotate_left
              · intro wz hSw; have a0 : wz.cell? ⟨g7, 0, none⟩ = some (.int .i64 1) := (hSw.bk (b := g7) (t := 34) (cs := #[.int .i64 1, .string xa, .string xb, .int .i64 xn, .int .i64 xm]) (by simp)).cell 0; have a1 : wz.cell? ⟨g7, 1, none⟩ = some (.string xa) := (hSw.bk (b := g7) (t := 34) (cs := #[.int .i64 1, .string xa, .string xb, .int .i64 xn, .int .i64 xm]) (by simp)).cell 1; have a2 : wz.cell? ⟨g7, 2, none⟩ = some (.string xb) := (hSw.bk (b := g7) (t := 34) (cs := #[.int .i64 1, .string xa, .string xb, .int .i64 xn, .int .i64 xm]) (by simp)).cell 2; have b0 : wz.cell? ⟨g8, 0, none⟩ = some (.int .i64 3) := hSw.head.cell 0; have b1 : wz.cell? ⟨g8, 1, none⟩ = some (.string ya) := hSw.head.cell 1; go_simp; try (with_reducible rfl)
              try simp only [Act.put, List.setIfInBounds_toArray, List.set_cons_zero, List.set_cons_succ, List.getElem_toArray, List.getElem_cons_succ, List.getElem_cons_zero]
              refine take_at (some 89) (i := 1) (v := ?_) rfl rfl (by kernel_rfl) (by kernel_rfl) (by kernel_rfl) (fun _ _ _ h => h) (Or.inl ⟨by kernel_rfl, ?_⟩) hHeld ?_
              rotate_left
              · intro wz hSw; have a0 : wz.cell? ⟨g7, 0, none⟩ = some (.int .i64 1) := (hSw.bk (b := g7) (t := 34) (cs := #[.int .i64 1, .string xa, .string xb, .int .i64 xn, .int .i64 xm]) (by simp)).cell 0; have a1 : wz.cell? ⟨g7, 1, none⟩ = some (.string xa) := (hSw.bk (b := g7) (t := 34) (cs := #[.int .i64 1, .string xa, .string xb, .int .i64 xn, .int .i64 xm]) (by simp)).cell 1; have a2 : wz.cell? ⟨g7, 2, none⟩ = some (.string xb) := (hSw.bk (b := g7) (t := 34) (cs := #[.int .i64 1, .string xa, .string xb, .int .i64 xn, .int .i64 xm]) (by simp)).cell 2; have b0 : wz.cell? ⟨g8, 0, none⟩ = some (.int .i64 3) := hSw.head.cell 0; have b1 : wz.cell? ⟨g8, 1, none⟩ = some (.string ya) := hSw.head.cell 1; go_simp; try (with_reducible rfl)
              try simp only [Act.put, List.setIfInBounds_toArray, List.set_cons_zero, List.set_cons_succ, List.getElem_toArray, List.getElem_cons_succ, List.getElem_cons_zero]
              refine take_at (some 90) (i := 2) (v := ?_) rfl rfl (by kernel_rfl) (by kernel_rfl) (by kernel_rfl) (fun _ _ _ h => h) (Or.inl ⟨by kernel_rfl, ?_⟩) hHeld ?_
              rotate_left
              · intro wz hSw; have a0 : wz.cell? ⟨g7, 0, none⟩ = some (.int .i64 1) := (hSw.bk (b := g7) (t := 34) (cs := #[.int .i64 1, .string xa, .string xb, .int .i64 xn, .int .i64 xm]) (by simp)).cell 0; have a1 : wz.cell? ⟨g7, 1, none⟩ = some (.string xa) := (hSw.bk (b := g7) (t := 34) (cs := #[.int .i64 1, .string xa, .string xb, .int .i64 xn, .int .i64 xm]) (by simp)).cell 1; have a2 : wz.cell? ⟨g7, 2, none⟩ = some (.string xb) := (hSw.bk (b := g7) (t := 34) (cs := #[.int .i64 1, .string xa, .string xb, .int .i64 xn, .int .i64 xm]) (by simp)).cell 2; have b0 : wz.cell? ⟨g8, 0, none⟩ = some (.int .i64 3) := hSw.head.cell 0; have b1 : wz.cell? ⟨g8, 1, none⟩ = some (.string ya) := hSw.head.cell 1; go_simp; try (with_reducible rfl)
              try simp only [Act.put, List.setIfInBounds_toArray, List.set_cons_zero, List.set_cons_succ, List.getElem_toArray, List.getElem_cons_succ, List.getElem_cons_zero]
              refine take_at (some 91) (i := 3) (v := ?_) rfl rfl (by kernel_rfl) (by kernel_rfl) (by kernel_rfl) (fun _ _ _ h => h) (Or.inl ⟨by kernel_rfl, ?_⟩) hHeld ?_
              rotate_left
              · intro wz hSw; go_simp; try (with_reducible rfl)
              try simp only [Act.put, List.setIfInBounds_toArray, List.set_cons_zero, List.set_cons_succ, List.getElem_toArray, List.getElem_cons_succ, List.getElem_cons_zero]
              refine take_at (some 92) (i := 4) (v := ?_) rfl rfl (by kernel_rfl) (by kernel_rfl) (by kernel_rfl) (fun _ _ _ h => h) (Or.inl ⟨by kernel_rfl, ?_⟩) hHeld ?_
              rotate_left
              · intro wz hSw; have a0 : wz.cell? ⟨g7, 0, none⟩ = some (.int .i64 1) := (hSw.bk (b := g7) (t := 34) (cs := #[.int .i64 1, .string xa, .string xb, .int .i64 xn, .int .i64 xm]) (by simp)).cell 0; have a1 : wz.cell? ⟨g7, 1, none⟩ = some (.string xa) := (hSw.bk (b := g7) (t := 34) (cs := #[.int .i64 1, .string xa, .string xb, .int .i64 xn, .int .i64 xm]) (by simp)).cell 1; have a2 : wz.cell? ⟨g7, 2, none⟩ = some (.string xb) := (hSw.bk (b := g7) (t := 34) (cs := #[.int .i64 1, .string xa, .string xb, .int .i64 xn, .int .i64 xm]) (by simp)).cell 2; have b0 : wz.cell? ⟨g8, 0, none⟩ = some (.int .i64 3) := hSw.head.cell 0; have b1 : wz.cell? ⟨g8, 1, none⟩ = some (.string ya) := hSw.head.cell 1; go_simp; try (with_reducible rfl)
              try simp only [Act.put, List.setIfInBounds_toArray, List.set_cons_zero, List.set_cons_succ, List.getElem_toArray, List.getElem_cons_succ, List.getElem_cons_zero]
              refine take_at (some 93) (i := 5) (v := ?_) rfl rfl (by kernel_rfl) (by kernel_rfl) (by kernel_rfl) (fun _ _ _ h => h) (Or.inl ⟨by kernel_rfl, ?_⟩) hHeld ?_
              rotate_left
              · intro wz hSw; have a0 : wz.cell? ⟨g7, 0, none⟩ = some (.int .i64 1) := (hSw.bk (b := g7) (t := 34) (cs := #[.int .i64 1, .string xa, .string xb, .int .i64 xn, .int .i64 xm]) (by simp)).cell 0; have a1 : wz.cell? ⟨g7, 1, none⟩ = some (.string xa) := (hSw.bk (b := g7) (t := 34) (cs := #[.int .i64 1, .string xa, .string xb, .int .i64 xn, .int .i64 xm]) (by simp)).cell 1; have a2 : wz.cell? ⟨g7, 2, none⟩ = some (.string xb) := (hSw.bk (b := g7) (t := 34) (cs := #[.int .i64 1, .string xa, .string xb, .int .i64 xn, .int .i64 xm]) (by simp)).cell 2; have b0 : wz.cell? ⟨g8, 0, none⟩ = some (.int .i64 3) := hSw.head.cell 0; have b1 : wz.cell? ⟨g8, 1, none⟩ = some (.string ya) := hSw.head.cell 1; go_simp; try (with_reducible rfl)
              try simp only [Act.put, List.setIfInBounds_toArray, List.set_cons_zero, List.set_cons_succ, List.getElem_toArray, List.getElem_cons_succ, List.getElem_cons_zero]
              refine take_at (some 94) (i := 6) (v := ?_) rfl rfl (by kernel_rfl) (by kernel_rfl) (by kernel_rfl) (fun _ _ _ h => h) (Or.inl ⟨by kernel_rfl, ?_⟩) hHeld ?_
              rotate_left
              · intro wz hSw; have a0 : wz.cell? ⟨g7, 0, none⟩ = some (.int .i64 1) := (hSw.bk (b := g7) (t := 34) (cs := #[.int .i64 1, .string xa, .string xb, .int .i64 xn, .int .i64 xm]) (by simp)).cell 0; have a1 : wz.cell? ⟨g7, 1, none⟩ = some (.string xa) := (hSw.bk (b := g7) (t := 34) (cs := #[.int .i64 1, .string xa, .string xb, .int .i64 xn, .int .i64 xm]) (by simp)).cell 1; have a2 : wz.cell? ⟨g7, 2, none⟩ = some (.string xb) := (hSw.bk (b := g7) (t := 34) (cs := #[.int .i64 1, .string xa, .string xb, .int .i64 xn, .int .i64 xm]) (by simp)).cell 2; have b0 : wz.cell? ⟨g8, 0, none⟩ = some (.int .i64 3) := hSw.head.cell 0; have b1 : wz.cell? ⟨g8, 1, none⟩ = some (.string ya) := hSw.head.cell 1; go_simp; try (with_reducible rfl)
              try simp only [Act.put, List.setIfInBounds_toArray, List.set_cons_zero, List.set_cons_succ, List.getElem_toArray, List.getElem_cons_succ, List.getElem_cons_zero]
              refine take_at (some 95) (i := 7) (v := ?_) rfl rfl (by kernel_rfl) (by kernel_rfl) (by kernel_rfl) (fun _ _ _ h => h) (Or.inl ⟨by kernel_rfl, ?_⟩) hHeld ?_
              rotate_left
              · intro wz hSw; go_simp; try (with_reducible rfl)
              try simp only [Act.put, List.setIfInBounds_toArray, List.set_cons_zero, List.set_cons_succ, List.getElem_toArray, List.getElem_cons_succ, List.getElem_cons_zero]
              refine take_at (some 96) (i := 8) (v := ?_) rfl rfl (by kernel_rfl) (by kernel_rfl) (by kernel_rfl) (fun _ _ _ h => h) (Or.inl ⟨by kernel_rfl, ?_⟩) hHeld ?_
              rotate_left
              · intro wz hSw; go_simp; try (with_reducible rfl)
              try simp only [Act.put, List.setIfInBounds_toArray, List.set_cons_zero, List.set_cons_succ, List.getElem_toArray, List.getElem_cons_succ, List.getElem_cons_zero]
              refine take_at (some 97) (i := 9) (v := ?_) rfl rfl (by kernel_rfl) (by kernel_rfl) (by kernel_rfl) (fun _ _ _ h => h) (Or.inl ⟨by kernel_rfl, ?_⟩) hHeld ?_
              rotate_left
              · intro wz hSw; go_simp; try (with_reducible rfl)
              try simp only [Act.put, List.setIfInBounds_toArray, List.set_cons_zero, List.set_cons_succ, List.getElem_toArray, List.getElem_cons_succ, List.getElem_cons_zero]
              refine take_at (some 98) (i := 10) (v := ?_) rfl rfl (by kernel_rfl) (by kernel_rfl) (by kernel_rfl) (fun _ _ _ h => h) (Or.inl ⟨by kernel_rfl, ?_⟩) hHeld ?_
              rotate_left
              · intro wz hSw; have a0 : wz.cell? ⟨g7, 0, none⟩ = some (.int .i64 1) := (hSw.bk (b := g7) (t := 34) (cs := #[.int .i64 1, .string xa, .string xb, .int .i64 xn, .int .i64 xm]) (by simp)).cell 0; have a1 : wz.cell? ⟨g7, 1, none⟩ = some (.string xa) := (hSw.bk (b := g7) (t := 34) (cs := #[.int .i64 1, .string xa, .string xb, .int .i64 xn, .int .i64 xm]) (by simp)).cell 1; have a2 : wz.cell? ⟨g7, 2, none⟩ = some (.string xb) := (hSw.bk (b := g7) (t := 34) (cs := #[.int .i64 1, .string xa, .string xb, .int .i64 xn, .int .i64 xm]) (by simp)).cell 2; have b0 : wz.cell? ⟨g8, 0, none⟩ = some (.int .i64 3) := hSw.head.cell 0; have b1 : wz.cell? ⟨g8, 1, none⟩ = some (.string ya) := hSw.head.cell 1; have hBx := HSB.out.low hSw; obtain ⟨x0, x1, x2, x3, x4, x5, x6, x7⟩ := HCX.out wz hBx; obtain ⟨q0, q1, q2, q3, q4, q5, q6, q7⟩ := HCY.out wz hBx; simp only [Nat.zero_mul, Nat.one_mul, Nat.add_zero] at x0 x1 x2 x3 x4 x5 x6 x7 q0 q1 q2 q3 q4 q5 q6 q7; clear hBx; go_simp; try (with_reducible rfl)
              try simp only [Act.put, List.setIfInBounds_toArray, List.set_cons_zero, List.set_cons_succ, List.getElem_toArray, List.getElem_cons_succ, List.getElem_cons_zero]
              refine take_at (some 99) (i := 11) (v := ?_) rfl rfl (by kernel_rfl) (by kernel_rfl) (by kernel_rfl) (fun _ _ _ h => h) (Or.inl ⟨by kernel_rfl, ?_⟩) hHeld ?_
              rotate_left
              · intro wz hSw; have a0 : wz.cell? ⟨g7, 0, none⟩ = some (.int .i64 1) := (hSw.bk (b := g7) (t := 34) (cs := #[.int .i64 1, .string xa, .string xb, .int .i64 xn, .int .i64 xm]) (by simp)).cell 0; have a1 : wz.cell? ⟨g7, 1, none⟩ = some (.string xa) := (hSw.bk (b := g7) (t := 34) (cs := #[.int .i64 1, .string xa, .string xb, .int .i64 xn, .int .i64 xm]) (by simp)).cell 1; have a2 : wz.cell? ⟨g7, 2, none⟩ = some (.string xb) := (hSw.bk (b := g7) (t := 34) (cs := #[.int .i64 1, .string xa, .string xb, .int .i64 xn, .int .i64 xm]) (by simp)).cell 2; have b0 : wz.cell? ⟨g8, 0, none⟩ = some (.int .i64 3) := hSw.head.cell 0; have b1 : wz.cell? ⟨g8, 1, none⟩ = some (.string ya) := hSw.head.cell 1; have hBx := HSB.out.low hSw; obtain ⟨x0, x1, x2, x3, x4, x5, x6, x7⟩ := HCX.out wz hBx; obtain ⟨q0, q1, q2, q3, q4, q5, q6, q7⟩ := HCY.out wz hBx; simp only [Nat.zero_mul, Nat.one_mul, Nat.add_zero] at x0 x1 x2 x3 x4 x5 x6 x7 q0 q1 q2 q3 q4 q5 q6 q7; clear hBx; go_simp; try (with_reducible rfl)
              try simp only [Act.put, List.setIfInBounds_toArray, List.set_cons_zero, List.set_cons_succ, List.getElem_toArray, List.getElem_cons_succ, List.getElem_cons_zero]
              refine take_at (some 100) (i := 12) (v := ?_) rfl rfl (by kernel_rfl) (by kernel_rfl) (by kernel_rfl) (fun _ _ _ h => h) (Or.inl ⟨by kernel_rfl, ?_⟩) hHeld ?_
              rotate_left
              · intro wz hSw; have a0 : wz.cell? ⟨g7, 0, none⟩ = some (.int .i64 1) := (hSw.bk (b := g7) (t := 34) (cs := #[.int .i64 1, .string xa, .string xb, .int .i64 xn, .int .i64 xm]) (by simp)).cell 0; have a1 : wz.cell? ⟨g7, 1, none⟩ = some (.string xa) := (hSw.bk (b := g7) (t := 34) (cs := #[.int .i64 1, .string xa, .string xb, .int .i64 xn, .int .i64 xm]) (by simp)).cell 1; have a2 : wz.cell? ⟨g7, 2, none⟩ = some (.string xb) := (hSw.bk (b := g7) (t := 34) (cs := #[.int .i64 1, .string xa, .string xb, .int .i64 xn, .int .i64 xm]) (by simp)).cell 2; have b0 : wz.cell? ⟨g8, 0, none⟩ = some (.int .i64 3) := hSw.head.cell 0; have b1 : wz.cell? ⟨g8, 1, none⟩ = some (.string ya) := hSw.head.cell 1; have hBx := HSB.out.low hSw; obtain ⟨x0, x1, x2, x3, x4, x5, x6, x7⟩ := HCX.out wz hBx; obtain ⟨q0, q1, q2, q3, q4, q5, q6, q7⟩ := HCY.out wz hBx; simp only [Nat.zero_mul, Nat.one_mul, Nat.add_zero] at x0 x1 x2 x3 x4 x5 x6 x7 q0 q1 q2 q3 q4 q5 q6 q7; clear hBx; go_simp; try (with_reducible rfl)
              try simp only [Act.put, List.setIfInBounds_toArray, List.set_cons_zero, List.set_cons_succ, List.getElem_toArray, List.getElem_cons_succ, List.getElem_cons_zero]
              refine take_at (some 101) (i := 13) (v := ?_) rfl rfl (by kernel_rfl) (by kernel_rfl) (by kernel_rfl) (fun _ _ _ h => h) (Or.inl ⟨by kernel_rfl, ?_⟩) hHeld ?_
              rotate_left
              · intro wz hSw; have a0 : wz.cell? ⟨g7, 0, none⟩ = some (.int .i64 1) := (hSw.bk (b := g7) (t := 34) (cs := #[.int .i64 1, .string xa, .string xb, .int .i64 xn, .int .i64 xm]) (by simp)).cell 0; have a1 : wz.cell? ⟨g7, 1, none⟩ = some (.string xa) := (hSw.bk (b := g7) (t := 34) (cs := #[.int .i64 1, .string xa, .string xb, .int .i64 xn, .int .i64 xm]) (by simp)).cell 1; have a2 : wz.cell? ⟨g7, 2, none⟩ = some (.string xb) := (hSw.bk (b := g7) (t := 34) (cs := #[.int .i64 1, .string xa, .string xb, .int .i64 xn, .int .i64 xm]) (by simp)).cell 2; have b0 : wz.cell? ⟨g8, 0, none⟩ = some (.int .i64 3) := hSw.head.cell 0; have b1 : wz.cell? ⟨g8, 1, none⟩ = some (.string ya) := hSw.head.cell 1; have hBx := HSB.out.low hSw; obtain ⟨x0, x1, x2, x3, x4, x5, x6, x7⟩ := HCX.out wz hBx; obtain ⟨q0, q1, q2, q3, q4, q5, q6, q7⟩ := HCY.out wz hBx; simp only [Nat.zero_mul, Nat.one_mul, Nat.add_zero] at x0 x1 x2 x3 x4 x5 x6 x7 q0 q1 q2 q3 q4 q5 q6 q7; clear hBx; go_simp; try (with_reducible rfl)
              try simp only [Act.put, List.setIfInBounds_toArray, List.set_cons_zero, List.set_cons_succ, List.getElem_toArray, List.getElem_cons_succ, List.getElem_cons_zero]
              refine take_at (some 102) (i := 14) (v := ?_) rfl rfl (by kernel_rfl) (by kernel_rfl) (by kernel_rfl) (fun _ _ _ h => h) (Or.inl ⟨by kernel_rfl, ?_⟩) hHeld ?_
              rotate_left
              · intro wz hSw; go_simp; try (with_reducible rfl)
              try simp only [Act.put, List.setIfInBounds_toArray, List.set_cons_zero, List.set_cons_succ, List.getElem_toArray, List.getElem_cons_succ, List.getElem_cons_zero]
              refine take_at (some 103) (i := 15) (v := ?_) rfl rfl (by kernel_rfl) (by kernel_rfl) (by kernel_rfl) (fun _ _ _ h => h) (Or.inl ⟨by kernel_rfl, ?_⟩) hHeld ?_
              rotate_left
              · intro wz hSw; have a0 : wz.cell? ⟨g7, 0, none⟩ = some (.int .i64 1) := (hSw.bk (b := g7) (t := 34) (cs := #[.int .i64 1, .string xa, .string xb, .int .i64 xn, .int .i64 xm]) (by simp)).cell 0; have a1 : wz.cell? ⟨g7, 1, none⟩ = some (.string xa) := (hSw.bk (b := g7) (t := 34) (cs := #[.int .i64 1, .string xa, .string xb, .int .i64 xn, .int .i64 xm]) (by simp)).cell 1; have a2 : wz.cell? ⟨g7, 2, none⟩ = some (.string xb) := (hSw.bk (b := g7) (t := 34) (cs := #[.int .i64 1, .string xa, .string xb, .int .i64 xn, .int .i64 xm]) (by simp)).cell 2; have b0 : wz.cell? ⟨g8, 0, none⟩ = some (.int .i64 3) := hSw.head.cell 0; have b1 : wz.cell? ⟨g8, 1, none⟩ = some (.string ya) := hSw.head.cell 1; have hBx := HSB.out.low hSw; obtain ⟨x0, x1, x2, x3, x4, x5, x6, x7⟩ := HCX.out wz hBx; obtain ⟨q0, q1, q2, q3, q4, q5, q6, q7⟩ := HCY.out wz hBx; simp only [Nat.zero_mul, Nat.one_mul, Nat.add_zero] at x0 x1 x2 x3 x4 x5 x6 x7 q0 q1 q2 q3 q4 q5 q6 q7; clear hBx; go_simp; try (with_reducible rfl)
              try simp only [Act.put, List.setIfInBounds_toArray, List.set_cons_zero, List.set_cons_succ, List.getElem_toArray, List.getElem_cons_succ, List.getElem_cons_zero]
              refine take_at (some 104) (i := 16) (v := ?_) rfl rfl (by kernel_rfl) (by kernel_rfl) (by kernel_rfl) (fun _ _ _ h => h) (Or.inl ⟨by kernel_rfl, ?_⟩) hHeld ?_
              rotate_left
              · intro wz hSw; have a0 : wz.cell? ⟨g7, 0, none⟩ = some (.int .i64 1) := (hSw.bk (b := g7) (t := 34) (cs := #[.int .i64 1, .string xa, .string xb, .int .i64 xn, .int .i64 xm]) (by simp)).cell 0; have a1 : wz.cell? ⟨g7, 1, none⟩ = some (.string xa) := (hSw.bk (b := g7) (t := 34) (cs := #[.int .i64 1, .string xa, .string xb, .int .i64 xn, .int .i64 xm]) (by simp)).cell 1; have a2 : wz.cell? ⟨g7, 2, none⟩ = some (.string xb) := (hSw.bk (b := g7) (t := 34) (cs := #[.int .i64 1, .string xa, .string xb, .int .i64 xn, .int .i64 xm]) (by simp)).cell 2; have b0 : wz.cell? ⟨g8, 0, none⟩ = some (.int .i64 3) := hSw.head.cell 0; have b1 : wz.cell? ⟨g8, 1, none⟩ = some (.string ya) := hSw.head.cell 1; have hBx := HSB.out.low hSw; obtain ⟨x0, x1, x2, x3, x4, x5, x6, x7⟩ := HCX.out wz hBx; obtain ⟨q0, q1, q2, q3, q4, q5, q6, q7⟩ := HCY.out wz hBx; simp only [Nat.zero_mul, Nat.one_mul, Nat.add_zero] at x0 x1 x2 x3 x4 x5 x6 x7 q0 q1 q2 q3 q4 q5 q6 q7; clear hBx; go_simp; try (with_reducible rfl)
              try simp only [Act.put, List.setIfInBounds_toArray, List.set_cons_zero, List.set_cons_succ, List.getElem_toArray, List.getElem_cons_succ, List.getElem_cons_zero]
              refine take_at (some 105) (i := 17) (v := ?_) rfl rfl (by kernel_rfl) (by kernel_rfl) (by kernel_rfl) (fun _ _ _ h => h) (Or.inl ⟨by kernel_rfl, ?_⟩) hHeld ?_
              rotate_left
              · intro wz hSw; have a0 : wz.cell? ⟨g7, 0, none⟩ = some (.int .i64 1) := (hSw.bk (b := g7) (t := 34) (cs := #[.int .i64 1, .string xa, .string xb, .int .i64 xn, .int .i64 xm]) (by simp)).cell 0; have a1 : wz.cell? ⟨g7, 1, none⟩ = some (.string xa) := (hSw.bk (b := g7) (t := 34) (cs := #[.int .i64 1, .string xa, .string xb, .int .i64 xn, .int .i64 xm]) (by simp)).cell 1; have a2 : wz.cell? ⟨g7, 2, none⟩ = some (.string xb) := (hSw.bk (b := g7) (t := 34) (cs := #[.int .i64 1, .string xa, .string xb, .int .i64 xn, .int .i64 xm]) (by simp)).cell 2; have b0 : wz.cell? ⟨g8, 0, none⟩ = some (.int .i64 3) := hSw.head.cell 0; have b1 : wz.cell? ⟨g8, 1, none⟩ = some (.string ya) := hSw.head.cell 1; have hBx := HSB.out.low hSw; obtain ⟨x0, x1, x2, x3, x4, x5, x6, x7⟩ := HCX.out wz hBx; obtain ⟨q0, q1, q2, q3, q4, q5, q6, q7⟩ := HCY.out wz hBx; simp only [Nat.zero_mul, Nat.one_mul, Nat.add_zero] at x0 x1 x2 x3 x4 x5 x6 x7 q0 q1 q2 q3 q4 q5 q6 q7; clear hBx; go_simp; try (with_reducible rfl)
              try simp only [Act.put, List.setIfInBounds_toArray, List.set_cons_zero, List.set_cons_succ, List.getElem_toArray, List.getElem_cons_succ, List.getElem_cons_zero]
              refine wpAnyH_ready (rs := [18]) (by kernel_rfl) (by simp) (AllReadyH.cons rfl (fun K hK => ?_) AllReadyH.nil)
              rw [if_pos (by kernel_rfl)]
              go_simp
              refine (HGO2.out _ _ hHeld).mono ?_
              rintro e z18 ⟨rfl, hz18⟩
              try dsimp only
              refine hK.out _ _ hz18 (fun hHeld => ?_)
              try simp only [Act.put, List.setIfInBounds_toArray, List.set_cons_zero, List.set_cons_succ, List.getElem_toArray, List.getElem_cons_succ, List.getElem_cons_zero]
              refine take_at (some 107) (i := 19) (v := ?_) rfl rfl (by kernel_rfl) (by kernel_rfl) (by kernel_rfl) (fun _ _ _ h => h) (Or.inl ⟨by kernel_rfl, ?_⟩) hHeld ?_
              rotate_left
              · intro wz hSw; go_simp; try (with_reducible rfl)
              try simp only [Act.put, List.setIfInBounds_toArray, List.set_cons_zero, List.set_cons_succ, List.getElem_toArray, List.getElem_cons_succ, List.getElem_cons_zero]
              refine take_at (some 108) (i := 20) (v := ?_) rfl rfl (by kernel_rfl) (by kernel_rfl) (by kernel_rfl) (fun _ _ _ h => h) (Or.inl ⟨by kernel_rfl, ?_⟩) hHeld ?_
              rotate_left
              · intro wz hSw; go_simp; try (with_reducible rfl)
              try simp only [Act.put, List.setIfInBounds_toArray, List.set_cons_zero, List.set_cons_succ, List.getElem_toArray, List.getElem_cons_succ, List.getElem_cons_zero]
              refine take_at (some 109) (i := 21) (v := ?_) rfl rfl (by kernel_rfl) (by kernel_rfl) (by kernel_rfl) (fun _ _ _ h => h) (Or.inl ⟨by kernel_rfl, ?_⟩) hHeld ?_
              rotate_left
              · intro wz hSw; have a0 : wz.cell? ⟨g7, 0, none⟩ = some (.int .i64 1) := (hSw.bk (b := g7) (t := 34) (cs := #[.int .i64 1, .string xa, .string xb, .int .i64 xn, .int .i64 xm]) (by simp)).cell 0; have a1 : wz.cell? ⟨g7, 1, none⟩ = some (.string xa) := (hSw.bk (b := g7) (t := 34) (cs := #[.int .i64 1, .string xa, .string xb, .int .i64 xn, .int .i64 xm]) (by simp)).cell 1; have a2 : wz.cell? ⟨g7, 2, none⟩ = some (.string xb) := (hSw.bk (b := g7) (t := 34) (cs := #[.int .i64 1, .string xa, .string xb, .int .i64 xn, .int .i64 xm]) (by simp)).cell 2; have b0 : wz.cell? ⟨g8, 0, none⟩ = some (.int .i64 3) := hSw.head.cell 0; have b1 : wz.cell? ⟨g8, 1, none⟩ = some (.string ya) := hSw.head.cell 1; go_simp; try (with_reducible rfl)
              try simp only [Act.put, List.setIfInBounds_toArray, List.set_cons_zero, List.set_cons_succ, List.getElem_toArray, List.getElem_cons_succ, List.getElem_cons_zero]
              refine take_at (some 110) (i := 22) (v := ?_) rfl rfl (by kernel_rfl) (by kernel_rfl) (by kernel_rfl) (fun _ _ _ h => h) (Or.inl ⟨by kernel_rfl, ?_⟩) hHeld ?_
              rotate_left
              · intro wz hSw; have a0 : wz.cell? ⟨g7, 0, none⟩ = some (.int .i64 1) := (hSw.bk (b := g7) (t := 34) (cs := #[.int .i64 1, .string xa, .string xb, .int .i64 xn, .int .i64 xm]) (by simp)).cell 0; have a1 : wz.cell? ⟨g7, 1, none⟩ = some (.string xa) := (hSw.bk (b := g7) (t := 34) (cs := #[.int .i64 1, .string xa, .string xb, .int .i64 xn, .int .i64 xm]) (by simp)).cell 1; have a2 : wz.cell? ⟨g7, 2, none⟩ = some (.string xb) := (hSw.bk (b := g7) (t := 34) (cs := #[.int .i64 1, .string xa, .string xb, .int .i64 xn, .int .i64 xm]) (by simp)).cell 2; have b0 : wz.cell? ⟨g8, 0, none⟩ = some (.int .i64 3) := hSw.head.cell 0; have b1 : wz.cell? ⟨g8, 1, none⟩ = some (.string ya) := hSw.head.cell 1; go_simp; try (with_reducible rfl)
              try simp only [Act.put, List.setIfInBounds_toArray, List.set_cons_zero, List.set_cons_succ, List.getElem_toArray, List.getElem_cons_succ, List.getElem_cons_zero]
              refine take_at (some 111) (i := 23) (v := ?_) rfl rfl (by kernel_rfl) (by kernel_rfl) (by kernel_rfl) (fun _ _ _ h => h) (Or.inl ⟨by kernel_rfl, ?_⟩) hHeld ?_
              rotate_left
              · intro wz hSw; have a0 : wz.cell? ⟨g7, 0, none⟩ = some (.int .i64 1) := (hSw.bk (b := g7) (t := 34) (cs := #[.int .i64 1, .string xa, .string xb, .int .i64 xn, .int .i64 xm]) (by simp)).cell 0; have a1 : wz.cell? ⟨g7, 1, none⟩ = some (.string xa) := (hSw.bk (b := g7) (t := 34) (cs := #[.int .i64 1, .string xa, .string xb, .int .i64 xn, .int .i64 xm]) (by simp)).cell 1; have a2 : wz.cell? ⟨g7, 2, none⟩ = some (.string xb) := (hSw.bk (b := g7) (t := 34) (cs := #[.int .i64 1, .string xa, .string xb, .int .i64 xn, .int .i64 xm]) (by simp)).cell 2; have b0 : wz.cell? ⟨g8, 0, none⟩ = some (.int .i64 3) := hSw.head.cell 0; have b1 : wz.cell? ⟨g8, 1, none⟩ = some (.string ya) := hSw.head.cell 1; go_simp; try (with_reducible rfl)
              try simp only [Act.put, List.setIfInBounds_toArray, List.set_cons_zero, List.set_cons_succ, List.getElem_toArray, List.getElem_cons_succ, List.getElem_cons_zero]
              refine take_at (some 112) (i := 24) (v := ?_) rfl rfl (by kernel_rfl) (by kernel_rfl) (by kernel_rfl) (fun _ _ _ h => h) (Or.inl ⟨by kernel_rfl, ?_⟩) hHeld ?_
              rotate_left
              · intro wz hSw; go_simp; try (with_reducible rfl)
              try simp only [Act.put, List.setIfInBounds_toArray, List.set_cons_zero, List.set_cons_succ, List.getElem_toArray, List.getElem_cons_succ, List.getElem_cons_zero]
              refine take_at (some 113) (i := 25) (v := ?_) rfl rfl (by kernel_rfl) (by kernel_rfl) (by kernel_rfl) (fun _ _ _ h => h) (Or.inl ⟨by kernel_rfl, ?_⟩) hHeld ?_
              rotate_left
              · intro wz hSw; go_simp; try (with_reducible rfl)
              try simp only [Act.put, List.setIfInBounds_toArray, List.set_cons_zero, List.set_cons_succ, List.getElem_toArray, List.getElem_cons_succ, List.getElem_cons_zero]
              refine take_at (some 114) (i := 26) (v := ?_) rfl rfl (by kernel_rfl) (by kernel_rfl) (by kernel_rfl) (fun _ _ _ h => h) (Or.inl ⟨by kernel_rfl, ?_⟩) hHeld ?_
              rotate_left
              · intro wz hSw; have a0 : wz.cell? ⟨g7, 0, none⟩ = some (.int .i64 1) := (hSw.bk (b := g7) (t := 34) (cs := #[.int .i64 1, .string xa, .string xb, .int .i64 xn, .int .i64 xm]) (by simp)).cell 0; have a1 : wz.cell? ⟨g7, 1, none⟩ = some (.string xa) := (hSw.bk (b := g7) (t := 34) (cs := #[.int .i64 1, .string xa, .string xb, .int .i64 xn, .int .i64 xm]) (by simp)).cell 1; have a2 : wz.cell? ⟨g7, 2, none⟩ = some (.string xb) := (hSw.bk (b := g7) (t := 34) (cs := #[.int .i64 1, .string xa, .string xb, .int .i64 xn, .int .i64 xm]) (by simp)).cell 2; have b0 : wz.cell? ⟨g8, 0, none⟩ = some (.int .i64 3) := hSw.head.cell 0; have b1 : wz.cell? ⟨g8, 1, none⟩ = some (.string ya) := hSw.head.cell 1; go_simp; try (with_reducible rfl)
              try simp only [Act.put, List.setIfInBounds_toArray, List.set_cons_zero, List.set_cons_succ, List.getElem_toArray, List.getElem_cons_succ, List.getElem_cons_zero]
              refine take_at (some 115) (i := 27) (v := ?_) rfl rfl (by kernel_rfl) (by kernel_rfl) (by kernel_rfl) (fun _ _ _ h => h) (Or.inl ⟨by kernel_rfl, ?_⟩) hHeld ?_
              rotate_left
              · intro wz hSw; have a0 : wz.cell? ⟨g7, 0, none⟩ = some (.int .i64 1) := (hSw.bk (b := g7) (t := 34) (cs := #[.int .i64 1, .string xa, .string xb, .int .i64 xn, .int .i64 xm]) (by simp)).cell 0; have a1 : wz.cell? ⟨g7, 1, none⟩ = some (.string xa) := (hSw.bk (b := g7) (t := 34) (cs := #[.int .i64 1, .string xa, .string xb, .int .i64 xn, .int .i64 xm]) (by simp)).cell 1; have a2 : wz.cell? ⟨g7, 2, none⟩ = some (.string xb) := (hSw.bk (b := g7) (t := 34) (cs := #[.int .i64 1, .string xa, .string xb, .int .i64 xn, .int .i64 xm]) (by simp)).cell 2; have b0 : wz.cell? ⟨g8, 0, none⟩ = some (.int .i64 3) := hSw.head.cell 0; have b1 : wz.cell? ⟨g8, 1, none⟩ = some (.string ya) := hSw.head.cell 1; go_simp; try (with_reducible rfl)
              try simp only [Act.put, List.setIfInBounds_toArray, List.set_cons_zero, List.set_cons_succ, List.getElem_toArray, List.getElem_cons_succ, List.getElem_cons_zero]
              refine take_at (some 116) (i := 28) (v := ?_) rfl rfl (by kernel_rfl) (by kernel_rfl) (by kernel_rfl) (fun _ _ _ h => h) (Or.inl ⟨by kernel_rfl, ?_⟩) hHeld ?_
              rotate_left
              · intro wz hSw; go_simp; try (with_reducible rfl)
              try simp only [Act.put, List.setIfInBounds_toArray, List.set_cons_zero, List.set_cons_succ, List.getElem_toArray, List.getElem_cons_succ, List.getElem_cons_zero]
              refine take_at (some 117) (i := 29) (v := ?_) rfl rfl (by kernel_rfl) (by kernel_rfl) (by kernel_rfl) (fun _ _ _ h => h) (Or.inl ⟨by kernel_rfl, ?_⟩) hHeld ?_
              rotate_left
              · intro wz hSw; have a0 : wz.cell? ⟨g7, 0, none⟩ = some (.int .i64 1) := (hSw.bk (b := g7) (t := 34) (cs := #[.int .i64 1, .string xa, .string xb, .int .i64 xn, .int .i64 xm]) (by simp)).cell 0; have a1 : wz.cell? ⟨g7, 1, none⟩ = some (.string xa) := (hSw.bk (b := g7) (t := 34) (cs := #[.int .i64 1, .string xa, .string xb, .int .i64 xn, .int .i64 xm]) (by simp)).cell 1; have a2 : wz.cell? ⟨g7, 2, none⟩ = some (.string xb) := (hSw.bk (b := g7) (t := 34) (cs := #[.int .i64 1, .string xa, .string xb, .int .i64 xn, .int .i64 xm]) (by simp)).cell 2; have b0 : wz.cell? ⟨g8, 0, none⟩ = some (.int .i64 3) := hSw.head.cell 0; have b1 : wz.cell? ⟨g8, 1, none⟩ = some (.string ya) := hSw.head.cell 1; go_simp; try (with_reducible rfl)
              try simp only [Act.put, List.setIfInBounds_toArray, List.set_cons_zero, List.set_cons_succ, List.getElem_toArray, List.getElem_cons_succ, List.getElem_cons_zero]
              refine take_at (some 118) (i := 30) (v := ?_) rfl rfl (by kernel_rfl) (by kernel_rfl) (by kernel_rfl) (fun _ _ _ h => h) (Or.inl ⟨by kernel_rfl, ?_⟩) hHeld ?_
              rotate_left
              · intro wz hSw; have a0 : wz.cell? ⟨g7, 0, none⟩ = some (.int .i64 1) := (hSw.bk (b := g7) (t := 34) (cs := #[.int .i64 1, .string xa, .string xb, .int .i64 xn, .int .i64 xm]) (by simp)).cell 0; have a1 : wz.cell? ⟨g7, 1, none⟩ = some (.string xa) := (hSw.bk (b := g7) (t := 34) (cs := #[.int .i64 1, .string xa, .string xb, .int .i64 xn, .int .i64 xm]) (by simp)).cell 1; have a2 : wz.cell? ⟨g7, 2, none⟩ = some (.string xb) := (hSw.bk (b := g7) (t := 34) (cs := #[.int .i64 1, .string xa, .string xb, .int .i64 xn, .int .i64 xm]) (by simp)).cell 2; have b0 : wz.cell? ⟨g8, 0, none⟩ = some (.int .i64 3) := hSw.head.cell 0; have b1 : wz.cell? ⟨g8, 1, none⟩ = some (.string ya) := hSw.head.cell 1; go_simp; try (with_reducible rfl)
              try simp only [Act.put, List.setIfInBounds_toArray, List.set_cons_zero, List.set_cons_succ, List.getElem_toArray, List.getElem_cons_succ, List.getElem_cons_zero]
              refine take_at (some 119) (i := 31) (v := ?_) rfl rfl (by kernel_rfl) (by kernel_rfl) (by kernel_rfl) (fun _ _ _ h => h) (Or.inl ⟨by kernel_rfl, ?_⟩) hHeld ?_
              rotate_left
              · intro wz hSw; have a0 : wz.cell? ⟨g7, 0, none⟩ = some (.int .i64 1) := (hSw.bk (b := g7) (t := 34) (cs := #[.int .i64 1, .string xa, .string xb, .int .i64 xn, .int .i64 xm]) (by simp)).cell 0; have a1 : wz.cell? ⟨g7, 1, none⟩ = some (.string xa) := (hSw.bk (b := g7) (t := 34) (cs := #[.int .i64 1, .string xa, .string xb, .int .i64 xn, .int .i64 xm]) (by simp)).cell 1; have a2 : wz.cell? ⟨g7, 2, none⟩ = some (.string xb) := (hSw.bk (b := g7) (t := 34) (cs := #[.int .i64 1, .string xa, .string xb, .int .i64 xn, .int .i64 xm]) (by simp)).cell 2; have b0 : wz.cell? ⟨g8, 0, none⟩ = some (.int .i64 3) := hSw.head.cell 0; have b1 : wz.cell? ⟨g8, 1, none⟩ = some (.string ya) := hSw.head.cell 1; go_simp; try (with_reducible rfl)
              try simp only [Act.put, List.setIfInBounds_toArray, List.set_cons_zero, List.set_cons_succ, List.getElem_toArray, List.getElem_cons_succ, List.getElem_cons_zero]
              refine take_at (some 120) (i := 32) (v := ?_) rfl rfl (by kernel_rfl) (by kernel_rfl) (by kernel_rfl) (fun _ _ _ h => h) (Or.inl ⟨by kernel_rfl, ?_⟩) hHeld ?_
              rotate_left
              · intro wz hSw; have a0 : wz.cell? ⟨g7, 0, none⟩ = some (.int .i64 1) := (hSw.bk (b := g7) (t := 34) (cs := #[.int .i64 1, .string xa, .string xb, .int .i64 xn, .int .i64 xm]) (by simp)).cell 0; have a1 : wz.cell? ⟨g7, 1, none⟩ = some (.string xa) := (hSw.bk (b := g7) (t := 34) (cs := #[.int .i64 1, .string xa, .string xb, .int .i64 xn, .int .i64 xm]) (by simp)).cell 1; have a2 : wz.cell? ⟨g7, 2, none⟩ = some (.string xb) := (hSw.bk (b := g7) (t := 34) (cs := #[.int .i64 1, .string xa, .string xb, .int .i64 xn, .int .i64 xm]) (by simp)).cell 2; have b0 : wz.cell? ⟨g8, 0, none⟩ = some (.int .i64 3) := hSw.head.cell 0; have b1 : wz.cell? ⟨g8, 1, none⟩ = some (.string ya) := hSw.head.cell 1; go_simp; try (with_reducible rfl)
              try simp only [Act.put, List.setIfInBounds_toArray, List.set_cons_zero, List.set_cons_succ, List.getElem_toArray, List.getElem_cons_succ, List.getElem_cons_zero]
              refine take_at (some 121) (i := 33) (v := ?_) rfl rfl (by kernel_rfl) (by kernel_rfl) (by kernel_rfl) (fun _ _ _ h => h) (Or.inl ⟨by kernel_rfl, ?_⟩) hHeld ?_
              rotate_left
              · intro wz hSw; go_simp; try (with_reducible rfl)
              try simp only [Act.put, List.setIfInBounds_toArray, List.set_cons_zero, List.set_cons_succ, List.getElem_toArray, List.getElem_cons_succ, List.getElem_cons_zero]
              refine wpAnyH_ready (rs := [34]) (by kernel_rfl) (by simp) (AllReadyH.cons rfl (fun K hK => ?_) AllReadyH.nil)
              rw [if_pos (by kernel_rfl)]
              go_simp
              refine (HWA.out _ _ hHeld).mono ?_
              rintro e z34 ⟨rfl, hz34⟩
              try dsimp only
              refine hK.out _ _ hz34 (fun hHeld => ?_)
              try simp only [Act.put, List.setIfInBounds_toArray, List.set_cons_zero, List.set_cons_succ, List.getElem_toArray, List.getElem_cons_succ, List.getElem_cons_zero]
              refine take_at (some 123) (i := 35) (v := ?_) rfl rfl (by kernel_rfl) (by kernel_rfl) (by kernel_rfl) (fun _ _ _ h => h) (Or.inl ⟨by kernel_rfl, ?_⟩) hHeld ?_
              rotate_left
              · intro wz hSw; have a0 : wz.cell? ⟨g7, 0, none⟩ = some (.int .i64 1) := (hSw.bk (b := g7) (t := 34) (cs := #[.int .i64 1, .string xa, .string xb, .int .i64 xn, .int .i64 xm]) (by simp)).cell 0; have a1 : wz.cell? ⟨g7, 1, none⟩ = some (.string xa) := (hSw.bk (b := g7) (t := 34) (cs := #[.int .i64 1, .string xa, .string xb, .int .i64 xn, .int .i64 xm]) (by simp)).cell 1; have a2 : wz.cell? ⟨g7, 2, none⟩ = some (.string xb) := (hSw.bk (b := g7) (t := 34) (cs := #[.int .i64 1, .string xa, .string xb, .int .i64 xn, .int .i64 xm]) (by simp)).cell 2; have b0 : wz.cell? ⟨g8, 0, none⟩ = some (.int .i64 3) := hSw.head.cell 0; have b1 : wz.cell? ⟨g8, 1, none⟩ = some (.string ya) := hSw.head.cell 1; go_simp; try (with_reducible rfl)
              try simp only [Act.put, List.setIfInBounds_toArray, List.set_cons_zero, List.set_cons_succ, List.getElem_toArray, List.getElem_cons_succ, List.getElem_cons_zero]
              refine take_at (some 124) (i := 36) (v := ?_) rfl rfl (by kernel_rfl) (by kernel_rfl) (by kernel_rfl) (fun _ _ _ h => h) (Or.inl ⟨by kernel_rfl, ?_⟩) hHeld ?_
              rotate_left
              · intro wz hSw; go_simp; try (with_reducible rfl)
              try simp only [Act.put, List.setIfInBounds_toArray, List.set_cons_zero, List.set_cons_succ, List.getElem_toArray, List.getElem_cons_succ, List.getElem_cons_zero]
              refine take_at (some 14) (i := 37) (v := ?_) rfl rfl (by kernel_rfl) (by kernel_rfl) (by kernel_rfl) (fun _ _ _ h => h) (Or.inl ⟨by kernel_rfl, ?_⟩) hHeld ?_
              rotate_left
              · intro wz hSw; go_simp; try (with_reducible rfl)
              try simp only [Act.put, List.setIfInBounds_toArray, List.set_cons_zero, List.set_cons_succ, List.getElem_toArray, List.getElem_cons_succ, List.getElem_cons_zero]
              refine wpAnyH_done (by kernel_rfl) ?_ _
              refine gen_qS (fun y => Ss u2 mb [] sb v s2 [(g8, 34, #[.int .i64 3, .string ya, .string yb, .int .i64 yn, .int .i64 ym]), (g7, 34, #[.int .i64 1, .string xa, .string xb, .int .i64 xn, .int .i64 xm])] y) hHeld (fun yz hyz => ?_)
              have HYZ := Lib.hid hyz
              clear hyz hHeld HY9
              have a1 : yz.cell? ⟨g7, 1, none⟩ = some (.string xa) := (HYZ.out.bk (b := g7) (t := 34) (cs := #[.int .i64 1, .string xa, .string xb, .int .i64 xn, .int .i64 xm]) (by simp)).cell 1
              go_wp2
              go_ret
              exact ⟨rfl, HSB.out.low HYZ.out⟩
            | true =>
              obtain rfl : kn = true := HKE.out
              have hsm : (wh.toList == xa.toList) = true := by rw [HW1.out rfl]; exact beq_self_eq_true _
              try simp only [List.cons_append, List.nil_append]
              refine wp_region_held_drew (S := fun wz => Ss u2 mb [] sb v s2 [(g8, 34, #[.int .i64 3, .string ya, .string yb, .int .i64 yn, .int .i64 ym]), (g7, 34, #[.int .i64 1, .string xa, .string xb, .int .i64 xn, .int .i64 xm])] wz) (by kernel_rfl) (HY9.out.on (Below.refl _ _).drew) (fun hHeld => ?_)
              refine take_at (some 88) (i := 0) (v := ?_) rfl rfl (by kernel_rfl) (by kernel_rfl) (by kernel_rfl) (fun _ _ _ h => h) (Or.inl ⟨by kernel_rfl, ?_⟩) hHeld ?_
              rotate_left
              · intro wz hSw; have a0 : wz.cell? ⟨g7, 0, none⟩ = some (.int .i64 1) := (hSw.bk (b := g7) (t := 34) (cs := #[.int .i64 1, .string xa, .string xb, .int .i64 xn, .int .i64 xm]) (by simp)).cell 0; have a1 : wz.cell? ⟨g7, 1, none⟩ = some (.string xa) := (hSw.bk (b := g7) (t := 34) (cs := #[.int .i64 1, .string xa, .string xb, .int .i64 xn, .int .i64 xm]) (by simp)).cell 1; have a2 : wz.cell? ⟨g7, 2, none⟩ = some (.string xb) := (hSw.bk (b := g7) (t := 34) (cs := #[.int .i64 1, .string xa, .string xb, .int .i64 xn, .int .i64 xm]) (by simp)).cell 2; have b0 : wz.cell? ⟨g8, 0, none⟩ = some (.int .i64 3) := hSw.head.cell 0; have b1 : wz.cell? ⟨g8, 1, none⟩ = some (.string ya) := hSw.head.cell 1; go_simp; try (with_reducible rfl)
              try simp only [Act.put, List.setIfInBounds_toArray, List.set_cons_zero, List.set_cons_succ, List.getElem_toArray, List.getElem_cons_succ, List.getElem_cons_zero]
              refine take_at (some 89) (i := 1) (v := ?_) rfl rfl (by kernel_rfl) (by kernel_rfl) (by kernel_rfl) (fun _ _ _ h => h) (Or.inl ⟨by kernel_rfl, ?_⟩) hHeld ?_
              rotate_left
              · intro wz hSw; have a0 : wz.cell? ⟨g7, 0, none⟩ = some (.int .i64 1) := (hSw.bk (b := g7) (t := 34) (cs := #[.int .i64 1, .string xa, .string xb, .int .i64 xn, .int .i64 xm]) (by simp)).cell 0; have a1 : wz.cell? ⟨g7, 1, none⟩ = some (.string xa) := (hSw.bk (b := g7) (t := 34) (cs := #[.int .i64 1, .string xa, .string xb, .int .i64 xn, .int .i64 xm]) (by simp)).cell 1; have a2 : wz.cell? ⟨g7, 2, none⟩ = some (.string xb) := (hSw.bk (b := g7) (t := 34) (cs := #[.int .i64 1, .string xa, .string xb, .int .i64 xn, .int .i64 xm]) (by simp)).cell 2; have b0 : wz.cell? ⟨g8, 0, none⟩ = some (.int .i64 3) := hSw.head.cell 0; have b1 : wz.cell? ⟨g8, 1, none⟩ = some (.string ya) := hSw.head.cell 1; go_simp; try (with_reducible rfl)
              try simp only [Act.put, List.setIfInBounds_toArray, List.set_cons_zero, List.set_cons_succ, List.getElem_toArray, List.getElem_cons_succ, List.getElem_cons_zero]
              refine take_at (some 90) (i := 2) (v := ?_) rfl rfl (by kernel_rfl) (by kernel_rfl) (by kernel_rfl) (fun _ _ _ h => h) (Or.inl ⟨by kernel_rfl, ?_⟩) hHeld ?_
              rotate_left
              · intro wz hSw; have a0 : wz.cell? ⟨g7, 0, none⟩ = some (.int .i64 1) := (hSw.bk (b := g7) (t := 34) (cs := #[.int .i64 1, .string xa, .string xb, .int .i64 xn, .int .i64 xm]) (by simp)).cell 0; have a1 : wz.cell? ⟨g7, 1, none⟩ = some (.string xa) := (hSw.bk (b := g7) (t := 34) (cs := #[.int .i64 1, .string xa, .string xb, .int .i64 xn, .int .i64 xm]) (by simp)).cell 1; have a2 : wz.cell? ⟨g7, 2, none⟩ = some (.string xb) := (hSw.bk (b := g7) (t := 34) (cs := #[.int .i64 1, .string xa, .string xb, .int .i64 xn, .int .i64 xm]) (by simp)).cell 2; have b0 : wz.cell? ⟨g8, 0, none⟩ = some (.int .i64 3) := hSw.head.cell 0; have b1 : wz.cell? ⟨g8, 1, none⟩ = some (.string ya) := hSw.head.cell 1; go_simp; try (with_reducible rfl)
              try simp only [Act.put, List.setIfInBounds_toArray, List.set_cons_zero, List.set_cons_succ, List.getElem_toArray, List.getElem_cons_succ, List.getElem_cons_zero]
              refine take_at (some 91) (i := 3) (v := ?_) rfl rfl (by kernel_rfl) (by kernel_rfl) (by kernel_rfl) (fun _ _ _ h => h) (Or.inl ⟨by kernel_rfl, ?_⟩) hHeld ?_
              rotate_left
              · intro wz hSw; go_simp; try (with_reducible rfl)
              try simp only [Act.put, List.setIfInBounds_toArray, List.set_cons_zero, List.set_cons_succ, List.getElem_toArray, List.getElem_cons_succ, List.getElem_cons_zero]
              refine take_at (some 92) (i := 4) (v := ?_) rfl rfl (by kernel_rfl) (by kernel_rfl) (by kernel_rfl) (fun _ _ _ h => h) (Or.inl ⟨by kernel_rfl, ?_⟩) hHeld ?_
              rotate_left
              · intro wz hSw; have a0 : wz.cell? ⟨g7, 0, none⟩ = some (.int .i64 1) := (hSw.bk (b := g7) (t := 34) (cs := #[.int .i64 1, .string xa, .string xb, .int .i64 xn, .int .i64 xm]) (by simp)).cell 0; have a1 : wz.cell? ⟨g7, 1, none⟩ = some (.string xa) := (hSw.bk (b := g7) (t := 34) (cs := #[.int .i64 1, .string xa, .string xb, .int .i64 xn, .int .i64 xm]) (by simp)).cell 1; have a2 : wz.cell? ⟨g7, 2, none⟩ = some (.string xb) := (hSw.bk (b := g7) (t := 34) (cs := #[.int .i64 1, .string xa, .string xb, .int .i64 xn, .int .i64 xm]) (by simp)).cell 2; have b0 : wz.cell? ⟨g8, 0, none⟩ = some (.int .i64 3) := hSw.head.cell 0; have b1 : wz.cell? ⟨g8, 1, none⟩ = some (.string ya) := hSw.head.cell 1; go_simp; try (with_reducible rfl)
              try simp only [Act.put, List.setIfInBounds_toArray, List.set_cons_zero, List.set_cons_succ, List.getElem_toArray, List.getElem_cons_succ, List.getElem_cons_zero]
              refine take_at (some 93) (i := 5) (v := ?_) rfl rfl (by kernel_rfl) (by kernel_rfl) (by kernel_rfl) (fun _ _ _ h => h) (Or.inl ⟨by kernel_rfl, ?_⟩) hHeld ?_
              rotate_left
              · intro wz hSw; have a0 : wz.cell? ⟨g7, 0, none⟩ = some (.int .i64 1) := (hSw.bk (b := g7) (t := 34) (cs := #[.int .i64 1, .string xa, .string xb, .int .i64 xn, .int .i64 xm]) (by simp)).cell 0; have a1 : wz.cell? ⟨g7, 1, none⟩ = some (.string xa) := (hSw.bk (b := g7) (t := 34) (cs := #[.int .i64 1, .string xa, .string xb, .int .i64 xn, .int .i64 xm]) (by simp)).cell 1; have a2 : wz.cell? ⟨g7, 2, none⟩ = some (.string xb) := (hSw.bk (b := g7) (t := 34) (cs := #[.int .i64 1, .string xa, .string xb, .int .i64 xn, .int .i64 xm]) (by simp)).cell 2; have b0 : wz.cell? ⟨g8, 0, none⟩ = some (.int .i64 3) := hSw.head.cell 0; have b1 : wz.cell? ⟨g8, 1, none⟩ = some (.string ya) := hSw.head.cell 1; go_simp; try (with_reducible rfl)
              try simp only [Act.put, List.setIfInBounds_toArray, List.set_cons_zero, List.set_cons_succ, List.getElem_toArray, List.getElem_cons_succ, List.getElem_cons_zero]
              refine take_at (some 94) (i := 6) (v := ?_) rfl rfl (by kernel_rfl) (by kernel_rfl) (by kernel_rfl) (fun _ _ _ h => h) (Or.inl ⟨by kernel_rfl, ?_⟩) hHeld ?_
              rotate_left
              · intro wz hSw; have a0 : wz.cell? ⟨g7, 0, none⟩ = some (.int .i64 1) := (hSw.bk (b := g7) (t := 34) (cs := #[.int .i64 1, .string xa, .string xb, .int .i64 xn, .int .i64 xm]) (by simp)).cell 0; have a1 : wz.cell? ⟨g7, 1, none⟩ = some (.string xa) := (hSw.bk (b := g7) (t := 34) (cs := #[.int .i64 1, .string xa, .string xb, .int .i64 xn, .int .i64 xm]) (by simp)).cell 1; have a2 : wz.cell? ⟨g7, 2, none⟩ = some (.string xb) := (hSw.bk (b := g7) (t := 34) (cs := #[.int .i64 1, .string xa, .string xb, .int .i64 xn, .int .i64 xm]) (by simp)).cell 2; have b0 : wz.cell? ⟨g8, 0, none⟩ = some (.int .i64 3) := hSw.head.cell 0; have b1 : wz.cell? ⟨g8, 1, none⟩ = some (.string ya) := hSw.head.cell 1; go_simp; try (with_reducible rfl)
              try simp only [Act.put, List.setIfInBounds_toArray, List.set_cons_zero, List.set_cons_succ, List.getElem_toArray, List.getElem_cons_succ, List.getElem_cons_zero]
              refine take_at (some 95) (i := 7) (v := ?_) rfl rfl (by kernel_rfl) (by kernel_rfl) (by kernel_rfl) (fun _ _ _ h => h) (Or.inl ⟨by kernel_rfl, ?_⟩) hHeld ?_
              rotate_left
              · intro wz hSw; go_simp; try (with_reducible rfl)
              try simp only [Act.put, List.setIfInBounds_toArray, List.set_cons_zero, List.set_cons_succ, List.getElem_toArray, List.getElem_cons_succ, List.getElem_cons_zero]
              refine take_at (some 96) (i := 8) (v := ?_) rfl rfl (by kernel_rfl) (by kernel_rfl) (by kernel_rfl) (fun _ _ _ h => h) (Or.inl ⟨by kernel_rfl, ?_⟩) hHeld ?_
              rotate_left
              · intro wz hSw; go_simp; try (with_reducible rfl)
              try simp only [Act.put, List.setIfInBounds_toArray, List.set_cons_zero, List.set_cons_succ, List.getElem_toArray, List.getElem_cons_succ, List.getElem_cons_zero]
              refine take_at (some 97) (i := 9) (v := ?_) rfl rfl (by kernel_rfl) (by kernel_rfl) (by kernel_rfl) (fun _ _ _ h => h) (Or.inl ⟨by kernel_rfl, ?_⟩) hHeld ?_
              rotate_left
              · intro wz hSw; go_simp; try (with_reducible rfl)
              try simp only [Act.put, List.setIfInBounds_toArray, List.set_cons_zero, List.set_cons_succ, List.getElem_toArray, List.getElem_cons_succ, List.getElem_cons_zero]
              refine take_at (some 98) (i := 10) (v := ?_) rfl rfl (by kernel_rfl) (by kernel_rfl) (by kernel_rfl) (fun _ _ _ h => h) (Or.inl ⟨by kernel_rfl, ?_⟩) hHeld ?_
              rotate_left
              · intro wz hSw; have a0 : wz.cell? ⟨g7, 0, none⟩ = some (.int .i64 1) := (hSw.bk (b := g7) (t := 34) (cs := #[.int .i64 1, .string xa, .string xb, .int .i64 xn, .int .i64 xm]) (by simp)).cell 0; have a1 : wz.cell? ⟨g7, 1, none⟩ = some (.string xa) := (hSw.bk (b := g7) (t := 34) (cs := #[.int .i64 1, .string xa, .string xb, .int .i64 xn, .int .i64 xm]) (by simp)).cell 1; have a2 : wz.cell? ⟨g7, 2, none⟩ = some (.string xb) := (hSw.bk (b := g7) (t := 34) (cs := #[.int .i64 1, .string xa, .string xb, .int .i64 xn, .int .i64 xm]) (by simp)).cell 2; have b0 : wz.cell? ⟨g8, 0, none⟩ = some (.int .i64 3) := hSw.head.cell 0; have b1 : wz.cell? ⟨g8, 1, none⟩ = some (.string ya) := hSw.head.cell 1; have hBx := HSB.out.low hSw; obtain ⟨x0, x1, x2, x3, x4, x5, x6, x7⟩ := HCX.out wz hBx; obtain ⟨q0, q1, q2, q3, q4, q5, q6, q7⟩ := HCY.out wz hBx; simp only [Nat.zero_mul, Nat.one_mul, Nat.add_zero] at x0 x1 x2 x3 x4 x5 x6 x7 q0 q1 q2 q3 q4 q5 q6 q7; clear hBx; go_simp; try (with_reducible rfl)
              try simp only [Act.put, List.setIfInBounds_toArray, List.set_cons_zero, List.set_cons_succ, List.getElem_toArray, List.getElem_cons_succ, List.getElem_cons_zero]
              refine take_at (some 99) (i := 11) (v := ?_) rfl rfl (by kernel_rfl) (by kernel_rfl) (by kernel_rfl) (fun _ _ _ h => h) (Or.inl ⟨by kernel_rfl, ?_⟩) hHeld ?_
              rotate_left
              · intro wz hSw; have a0 : wz.cell? ⟨g7, 0, none⟩ = some (.int .i64 1) := (hSw.bk (b := g7) (t := 34) (cs := #[.int .i64 1, .string xa, .string xb, .int .i64 xn, .int .i64 xm]) (by simp)).cell 0; have a1 : wz.cell? ⟨g7, 1, none⟩ = some (.string xa) := (hSw.bk (b := g7) (t := 34) (cs := #[.int .i64 1, .string xa, .string xb, .int .i64 xn, .int .i64 xm]) (by simp)).cell 1; have a2 : wz.cell? ⟨g7, 2, none⟩ = some (.string xb) := (hSw.bk (b := g7) (t := 34) (cs := #[.int .i64 1, .string xa, .string xb, .int .i64 xn, .int .i64 xm]) (by simp)).cell 2; have b0 : wz.cell? ⟨g8, 0, none⟩ = some (.int .i64 3) := hSw.head.cell 0; have b1 : wz.cell? ⟨g8, 1, none⟩ = some (.string ya) := hSw.head.cell 1; have hBx := HSB.out.low hSw; obtain ⟨x0, x1, x2, x3, x4, x5, x6, x7⟩ := HCX.out wz hBx; obtain ⟨q0, q1, q2, q3, q4, q5, q6, q7⟩ := HCY.out wz hBx; simp only [Nat.zero_mul, Nat.one_mul, Nat.add_zero] at x0 x1 x2 x3 x4 x5 x6 x7 q0 q1 q2 q3 q4 q5 q6 q7; clear hBx; go_simp; try (with_reducible rfl)
              try simp only [Act.put, List.setIfInBounds_toArray, List.set_cons_zero, List.set_cons_succ, List.getElem_toArray, List.getElem_cons_succ, List.getElem_cons_zero]
              refine take_at (some 100) (i := 12) (v := ?_) rfl rfl (by kernel_rfl) (by kernel_rfl) (by kernel_rfl) (fun _ _ _ h => h) (Or.inl ⟨by kernel_rfl, ?_⟩) hHeld ?_
              rotate_left
              · intro wz hSw; have a0 : wz.cell? ⟨g7, 0, none⟩ = some (.int .i64 1) := (hSw.bk (b := g7) (t := 34) (cs := #[.int .i64 1, .string xa, .string xb, .int .i64 xn, .int .i64 xm]) (by simp)).cell 0; have a1 : wz.cell? ⟨g7, 1, none⟩ = some (.string xa) := (hSw.bk (b := g7) (t := 34) (cs := #[.int .i64 1, .string xa, .string xb, .int .i64 xn, .int .i64 xm]) (by simp)).cell 1; have a2 : wz.cell? ⟨g7, 2, none⟩ = some (.string xb) := (hSw.bk (b := g7) (t := 34) (cs := #[.int .i64 1, .string xa, .string xb, .int .i64 xn, .int .i64 xm]) (by simp)).cell 2; have b0 : wz.cell? ⟨g8, 0, none⟩ = some (.int .i64 3) := hSw.head.cell 0; have b1 : wz.cell? ⟨g8, 1, none⟩ = some (.string ya) := hSw.head.cell 1; have hBx := HSB.out.low hSw; obtain ⟨x0, x1, x2, x3, x4, x5, x6, x7⟩ := HCX.out wz hBx; obtain ⟨q0, q1, q2, q3, q4, q5, q6, q7⟩ := HCY.out wz hBx; simp only [Nat.zero_mul, Nat.one_mul, Nat.add_zero] at x0 x1 x2 x3 x4 x5 x6 x7 q0 q1 q2 q3 q4 q5 q6 q7; clear hBx; go_simp; try (with_reducible rfl)
              try simp only [Act.put, List.setIfInBounds_toArray, List.set_cons_zero, List.set_cons_succ, List.getElem_toArray, List.getElem_cons_succ, List.getElem_cons_zero]
              refine take_at (some 101) (i := 13) (v := ?_) rfl rfl (by kernel_rfl) (by kernel_rfl) (by kernel_rfl) (fun _ _ _ h => h) (Or.inl ⟨by kernel_rfl, ?_⟩) hHeld ?_
              rotate_left
              · intro wz hSw; have a0 : wz.cell? ⟨g7, 0, none⟩ = some (.int .i64 1) := (hSw.bk (b := g7) (t := 34) (cs := #[.int .i64 1, .string xa, .string xb, .int .i64 xn, .int .i64 xm]) (by simp)).cell 0; have a1 : wz.cell? ⟨g7, 1, none⟩ = some (.string xa) := (hSw.bk (b := g7) (t := 34) (cs := #[.int .i64 1, .string xa, .string xb, .int .i64 xn, .int .i64 xm]) (by simp)).cell 1; have a2 : wz.cell? ⟨g7, 2, none⟩ = some (.string xb) := (hSw.bk (b := g7) (t := 34) (cs := #[.int .i64 1, .string xa, .string xb, .int .i64 xn, .int .i64 xm]) (by simp)).cell 2; have b0 : wz.cell? ⟨g8, 0, none⟩ = some (.int .i64 3) := hSw.head.cell 0; have b1 : wz.cell? ⟨g8, 1, none⟩ = some (.string ya) := hSw.head.cell 1; have hBx := HSB.out.low hSw; obtain ⟨x0, x1, x2, x3, x4, x5, x6, x7⟩ := HCX.out wz hBx; obtain ⟨q0, q1, q2, q3, q4, q5, q6, q7⟩ := HCY.out wz hBx; simp only [Nat.zero_mul, Nat.one_mul, Nat.add_zero] at x0 x1 x2 x3 x4 x5 x6 x7 q0 q1 q2 q3 q4 q5 q6 q7; clear hBx; go_simp; try (with_reducible rfl)
              try simp only [Act.put, List.setIfInBounds_toArray, List.set_cons_zero, List.set_cons_succ, List.getElem_toArray, List.getElem_cons_succ, List.getElem_cons_zero]
              refine take_at (some 102) (i := 14) (v := ?_) rfl rfl (by kernel_rfl) (by kernel_rfl) (by kernel_rfl) (fun _ _ _ h => h) (Or.inl ⟨by kernel_rfl, ?_⟩) hHeld ?_
              rotate_left
              · intro wz hSw; go_simp; try (with_reducible rfl)
              try simp only [Act.put, List.setIfInBounds_toArray, List.set_cons_zero, List.set_cons_succ, List.getElem_toArray, List.getElem_cons_succ, List.getElem_cons_zero]
              refine take_at (some 103) (i := 15) (v := ?_) rfl rfl (by kernel_rfl) (by kernel_rfl) (by kernel_rfl) (fun _ _ _ h => h) (Or.inl ⟨by kernel_rfl, ?_⟩) hHeld ?_
              rotate_left
              · intro wz hSw; have a0 : wz.cell? ⟨g7, 0, none⟩ = some (.int .i64 1) := (hSw.bk (b := g7) (t := 34) (cs := #[.int .i64 1, .string xa, .string xb, .int .i64 xn, .int .i64 xm]) (by simp)).cell 0; have a1 : wz.cell? ⟨g7, 1, none⟩ = some (.string xa) := (hSw.bk (b := g7) (t := 34) (cs := #[.int .i64 1, .string xa, .string xb, .int .i64 xn, .int .i64 xm]) (by simp)).cell 1; have a2 : wz.cell? ⟨g7, 2, none⟩ = some (.string xb) := (hSw.bk (b := g7) (t := 34) (cs := #[.int .i64 1, .string xa, .string xb, .int .i64 xn, .int .i64 xm]) (by simp)).cell 2; have b0 : wz.cell? ⟨g8, 0, none⟩ = some (.int .i64 3) := hSw.head.cell 0; have b1 : wz.cell? ⟨g8, 1, none⟩ = some (.string ya) := hSw.head.cell 1; have hBx := HSB.out.low hSw; obtain ⟨x0, x1, x2, x3, x4, x5, x6, x7⟩ := HCX.out wz hBx; obtain ⟨q0, q1, q2, q3, q4, q5, q6, q7⟩ := HCY.out wz hBx; simp only [Nat.zero_mul, Nat.one_mul, Nat.add_zero] at x0 x1 x2 x3 x4 x5 x6 x7 q0 q1 q2 q3 q4 q5 q6 q7; clear hBx; go_simp; try (with_reducible rfl)
              try simp only [Act.put, List.setIfInBounds_toArray, List.set_cons_zero, List.set_cons_succ, List.getElem_toArray, List.getElem_cons_succ, List.getElem_cons_zero]
              refine take_at (some 104) (i := 16) (v := ?_) rfl rfl (by kernel_rfl) (by kernel_rfl) (by kernel_rfl) (fun _ _ _ h => h) (Or.inl ⟨by kernel_rfl, ?_⟩) hHeld ?_
              rotate_left
              · intro wz hSw; have a0 : wz.cell? ⟨g7, 0, none⟩ = some (.int .i64 1) := (hSw.bk (b := g7) (t := 34) (cs := #[.int .i64 1, .string xa, .string xb, .int .i64 xn, .int .i64 xm]) (by simp)).cell 0; have a1 : wz.cell? ⟨g7, 1, none⟩ = some (.string xa) := (hSw.bk (b := g7) (t := 34) (cs := #[.int .i64 1, .string xa, .string xb, .int .i64 xn, .int .i64 xm]) (by simp)).cell 1; have a2 : wz.cell? ⟨g7, 2, none⟩ = some (.string xb) := (hSw.bk (b := g7) (t := 34) (cs := #[.int .i64 1, .string xa, .string xb, .int .i64 xn, .int .i64 xm]) (by simp)).cell 2; have b0 : wz.cell? ⟨g8, 0, none⟩ = some (.int .i64 3) := hSw.head.cell 0; have b1 : wz.cell? ⟨g8, 1, none⟩ = some (.string ya) := hSw.head.cell 1; have hBx := HSB.out.low hSw; obtain ⟨x0, x1, x2, x3, x4, x5, x6, x7⟩ := HCX.out wz hBx; obtain ⟨q0, q1, q2, q3, q4, q5, q6, q7⟩ := HCY.out wz hBx; simp only [Nat.zero_mul, Nat.one_mul, Nat.add_zero] at x0 x1 x2 x3 x4 x5 x6 x7 q0 q1 q2 q3 q4 q5 q6 q7; clear hBx; go_simp; try (with_reducible rfl)
              try simp only [Act.put, List.setIfInBounds_toArray, List.set_cons_zero, List.set_cons_succ, List.getElem_toArray, List.getElem_cons_succ, List.getElem_cons_zero]
              refine take_at (some 105) (i := 17) (v := ?_) rfl rfl (by kernel_rfl) (by kernel_rfl) (by kernel_rfl) (fun _ _ _ h => h) (Or.inl ⟨by kernel_rfl, ?_⟩) hHeld ?_
              rotate_left
              · intro wz hSw; have a0 : wz.cell? ⟨g7, 0, none⟩ = some (.int .i64 1) := (hSw.bk (b := g7) (t := 34) (cs := #[.int .i64 1, .string xa, .string xb, .int .i64 xn, .int .i64 xm]) (by simp)).cell 0; have a1 : wz.cell? ⟨g7, 1, none⟩ = some (.string xa) := (hSw.bk (b := g7) (t := 34) (cs := #[.int .i64 1, .string xa, .string xb, .int .i64 xn, .int .i64 xm]) (by simp)).cell 1; have a2 : wz.cell? ⟨g7, 2, none⟩ = some (.string xb) := (hSw.bk (b := g7) (t := 34) (cs := #[.int .i64 1, .string xa, .string xb, .int .i64 xn, .int .i64 xm]) (by simp)).cell 2; have b0 : wz.cell? ⟨g8, 0, none⟩ = some (.int .i64 3) := hSw.head.cell 0; have b1 : wz.cell? ⟨g8, 1, none⟩ = some (.string ya) := hSw.head.cell 1; have hBx := HSB.out.low hSw; obtain ⟨x0, x1, x2, x3, x4, x5, x6, x7⟩ := HCX.out wz hBx; obtain ⟨q0, q1, q2, q3, q4, q5, q6, q7⟩ := HCY.out wz hBx; simp only [Nat.zero_mul, Nat.one_mul, Nat.add_zero] at x0 x1 x2 x3 x4 x5 x6 x7 q0 q1 q2 q3 q4 q5 q6 q7; clear hBx; go_simp; try (with_reducible rfl)
              try simp only [Act.put, List.setIfInBounds_toArray, List.set_cons_zero, List.set_cons_succ, List.getElem_toArray, List.getElem_cons_succ, List.getElem_cons_zero]
              refine wpAnyH_ready (rs := [18]) (by kernel_rfl) (by simp) (AllReadyH.cons rfl (fun K hK => ?_) AllReadyH.nil)
              rw [if_pos (by kernel_rfl)]
              go_simp
              refine (HGO2.out _ _ hHeld).mono ?_
              rintro e z18 ⟨rfl, hz18⟩
              try dsimp only
              refine hK.out _ _ hz18 (fun hHeld => ?_)
              try simp only [Act.put, List.setIfInBounds_toArray, List.set_cons_zero, List.set_cons_succ, List.getElem_toArray, List.getElem_cons_succ, List.getElem_cons_zero]
              refine take_at (some 107) (i := 19) (v := ?_) rfl rfl (by kernel_rfl) (by kernel_rfl) (by kernel_rfl) (fun _ _ _ h => h) (Or.inl ⟨by kernel_rfl, ?_⟩) hHeld ?_
              rotate_left
              · intro wz hSw; go_simp; try (with_reducible rfl)
              try simp only [Act.put, List.setIfInBounds_toArray, List.set_cons_zero, List.set_cons_succ, List.getElem_toArray, List.getElem_cons_succ, List.getElem_cons_zero]
              refine take_at (some 108) (i := 20) (v := ?_) rfl rfl (by kernel_rfl) (by kernel_rfl) (by kernel_rfl) (fun _ _ _ h => h) (Or.inl ⟨by kernel_rfl, ?_⟩) hHeld ?_
              rotate_left
              · intro wz hSw; go_simp; try (with_reducible rfl)
              try simp only [Act.put, List.setIfInBounds_toArray, List.set_cons_zero, List.set_cons_succ, List.getElem_toArray, List.getElem_cons_succ, List.getElem_cons_zero]
              refine take_at (some 109) (i := 21) (v := ?_) rfl rfl (by kernel_rfl) (by kernel_rfl) (by kernel_rfl) (fun _ _ _ h => h) (Or.inl ⟨by kernel_rfl, ?_⟩) hHeld ?_
              rotate_left
              · intro wz hSw; have a0 : wz.cell? ⟨g7, 0, none⟩ = some (.int .i64 1) := (hSw.bk (b := g7) (t := 34) (cs := #[.int .i64 1, .string xa, .string xb, .int .i64 xn, .int .i64 xm]) (by simp)).cell 0; have a1 : wz.cell? ⟨g7, 1, none⟩ = some (.string xa) := (hSw.bk (b := g7) (t := 34) (cs := #[.int .i64 1, .string xa, .string xb, .int .i64 xn, .int .i64 xm]) (by simp)).cell 1; have a2 : wz.cell? ⟨g7, 2, none⟩ = some (.string xb) := (hSw.bk (b := g7) (t := 34) (cs := #[.int .i64 1, .string xa, .string xb, .int .i64 xn, .int .i64 xm]) (by simp)).cell 2; have b0 : wz.cell? ⟨g8, 0, none⟩ = some (.int .i64 3) := hSw.head.cell 0; have b1 : wz.cell? ⟨g8, 1, none⟩ = some (.string ya) := hSw.head.cell 1; go_simp; try (with_reducible rfl)
              try simp only [Act.put, List.setIfInBounds_toArray, List.set_cons_zero, List.set_cons_succ, List.getElem_toArray, List.getElem_cons_succ, List.getElem_cons_zero]
              refine take_at (some 110) (i := 22) (v := ?_) rfl rfl (by kernel_rfl) (by kernel_rfl) (by kernel_rfl) (fun _ _ _ h => h) (Or.inl ⟨by kernel_rfl, ?_⟩) hHeld ?_
              rotate_left
              · intro wz hSw; have a0 : wz.cell? ⟨g7, 0, none⟩ = some (.int .i64 1) := (hSw.bk (b := g7) (t := 34) (cs := #[.int .i64 1, .string xa, .string xb, .int .i64 xn, .int .i64 xm]) (by simp)).cell 0; have a1 : wz.cell? ⟨g7, 1, none⟩ = some (.string xa) := (hSw.bk (b := g7) (t := 34) (cs := #[.int .i64 1, .string xa, .string xb, .int .i64 xn, .int .i64 xm]) (by simp)).cell 1; have a2 : wz.cell? ⟨g7, 2, none⟩ = some (.string xb) := (hSw.bk (b := g7) (t := 34) (cs := #[.int .i64 1, .string xa, .string xb, .int .i64 xn, .int .i64 xm]) (by simp)).cell 2; have b0 : wz.cell? ⟨g8, 0, none⟩ = some (.int .i64 3) := hSw.head.cell 0; have b1 : wz.cell? ⟨g8, 1, none⟩ = some (.string ya) := hSw.head.cell 1; go_simp; try (with_reducible rfl)
              try simp only [Act.put, List.setIfInBounds_toArray, List.set_cons_zero, List.set_cons_succ, List.getElem_toArray, List.getElem_cons_succ, List.getElem_cons_zero]
              refine take_at (some 111) (i := 23) (v := ?_) rfl rfl (by kernel_rfl) (by kernel_rfl) (by kernel_rfl) (fun _ _ _ h => h) (Or.inl ⟨by kernel_rfl, ?_⟩) hHeld ?_
              rotate_left
              · intro wz hSw; have a0 : wz.cell? ⟨g7, 0, none⟩ = some (.int .i64 1) := (hSw.bk (b := g7) (t := 34) (cs := #[.int .i64 1, .string xa, .string xb, .int .i64 xn, .int .i64 xm]) (by simp)).cell 0; have a1 : wz.cell? ⟨g7, 1, none⟩ = some (.string xa) := (hSw.bk (b := g7) (t := 34) (cs := #[.int .i64 1, .string xa, .string xb, .int .i64 xn, .int .i64 xm]) (by simp)).cell 1; have a2 : wz.cell? ⟨g7, 2, none⟩ = some (.string xb) := (hSw.bk (b := g7) (t := 34) (cs := #[.int .i64 1, .string xa, .string xb, .int .i64 xn, .int .i64 xm]) (by simp)).cell 2; have b0 : wz.cell? ⟨g8, 0, none⟩ = some (.int .i64 3) := hSw.head.cell 0; have b1 : wz.cell? ⟨g8, 1, none⟩ = some (.string ya) := hSw.head.cell 1; go_simp; try (with_reducible rfl)
              try simp only [Act.put, List.setIfInBounds_toArray, List.set_cons_zero, List.set_cons_succ, List.getElem_toArray, List.getElem_cons_succ, List.getElem_cons_zero]
              refine take_at (some 112) (i := 24) (v := ?_) rfl rfl (by kernel_rfl) (by kernel_rfl) (by kernel_rfl) (fun _ _ _ h => h) (Or.inl ⟨by kernel_rfl, ?_⟩) hHeld ?_
              rotate_left
              · intro wz hSw; go_simp; try (with_reducible rfl)
              try simp only [Act.put, List.setIfInBounds_toArray, List.set_cons_zero, List.set_cons_succ, List.getElem_toArray, List.getElem_cons_succ, List.getElem_cons_zero]
              refine take_at (some 113) (i := 25) (v := ?_) rfl rfl (by kernel_rfl) (by kernel_rfl) (by kernel_rfl) (fun _ _ _ h => h) (Or.inl ⟨by kernel_rfl, ?_⟩) hHeld ?_
              rotate_left
              · intro wz hSw; go_simp; try (with_reducible rfl)
              try simp only [Act.put, List.setIfInBounds_toArray, List.set_cons_zero, List.set_cons_succ, List.getElem_toArray, List.getElem_cons_succ, List.getElem_cons_zero]
              refine take_at (some 114) (i := 26) (v := ?_) rfl rfl (by kernel_rfl) (by kernel_rfl) (by kernel_rfl) (fun _ _ _ h => h) (Or.inl ⟨by kernel_rfl, ?_⟩) hHeld ?_
              rotate_left
              · intro wz hSw; have a0 : wz.cell? ⟨g7, 0, none⟩ = some (.int .i64 1) := (hSw.bk (b := g7) (t := 34) (cs := #[.int .i64 1, .string xa, .string xb, .int .i64 xn, .int .i64 xm]) (by simp)).cell 0; have a1 : wz.cell? ⟨g7, 1, none⟩ = some (.string xa) := (hSw.bk (b := g7) (t := 34) (cs := #[.int .i64 1, .string xa, .string xb, .int .i64 xn, .int .i64 xm]) (by simp)).cell 1; have a2 : wz.cell? ⟨g7, 2, none⟩ = some (.string xb) := (hSw.bk (b := g7) (t := 34) (cs := #[.int .i64 1, .string xa, .string xb, .int .i64 xn, .int .i64 xm]) (by simp)).cell 2; have b0 : wz.cell? ⟨g8, 0, none⟩ = some (.int .i64 3) := hSw.head.cell 0; have b1 : wz.cell? ⟨g8, 1, none⟩ = some (.string ya) := hSw.head.cell 1; go_simp; try (with_reducible rfl)
              try simp only [Act.put, List.setIfInBounds_toArray, List.set_cons_zero, List.set_cons_succ, List.getElem_toArray, List.getElem_cons_succ, List.getElem_cons_zero]
              refine take_at (some 115) (i := 27) (v := ?_) rfl rfl (by kernel_rfl) (by kernel_rfl) (by kernel_rfl) (fun _ _ _ h => h) (Or.inl ⟨by kernel_rfl, ?_⟩) hHeld ?_
              rotate_left
              · intro wz hSw; have a0 : wz.cell? ⟨g7, 0, none⟩ = some (.int .i64 1) := (hSw.bk (b := g7) (t := 34) (cs := #[.int .i64 1, .string xa, .string xb, .int .i64 xn, .int .i64 xm]) (by simp)).cell 0; have a1 : wz.cell? ⟨g7, 1, none⟩ = some (.string xa) := (hSw.bk (b := g7) (t := 34) (cs := #[.int .i64 1, .string xa, .string xb, .int .i64 xn, .int .i64 xm]) (by simp)).cell 1; have a2 : wz.cell? ⟨g7, 2, none⟩ = some (.string xb) := (hSw.bk (b := g7) (t := 34) (cs := #[.int .i64 1, .string xa, .string xb, .int .i64 xn, .int .i64 xm]) (by simp)).cell 2; have b0 : wz.cell? ⟨g8, 0, none⟩ = some (.int .i64 3) := hSw.head.cell 0; have b1 : wz.cell? ⟨g8, 1, none⟩ = some (.string ya) := hSw.head.cell 1; go_simp; try (with_reducible rfl)
              try simp only [Act.put, List.setIfInBounds_toArray, List.set_cons_zero, List.set_cons_succ, List.getElem_toArray, List.getElem_cons_succ, List.getElem_cons_zero]
              refine take_at (some 116) (i := 28) (v := ?_) rfl rfl (by kernel_rfl) (by kernel_rfl) (by kernel_rfl) (fun _ _ _ h => h) (Or.inl ⟨by kernel_rfl, ?_⟩) hHeld ?_
              rotate_left
              · intro wz hSw; go_simp; try (with_reducible rfl)
              try simp only [Act.put, List.setIfInBounds_toArray, List.set_cons_zero, List.set_cons_succ, List.getElem_toArray, List.getElem_cons_succ, List.getElem_cons_zero]
              refine take_at (some 117) (i := 29) (v := ?_) rfl rfl (by kernel_rfl) (by kernel_rfl) (by kernel_rfl) (fun _ _ _ h => h) (Or.inl ⟨by kernel_rfl, ?_⟩) hHeld ?_
              rotate_left
              · intro wz hSw; have a0 : wz.cell? ⟨g7, 0, none⟩ = some (.int .i64 1) := (hSw.bk (b := g7) (t := 34) (cs := #[.int .i64 1, .string xa, .string xb, .int .i64 xn, .int .i64 xm]) (by simp)).cell 0; have a1 : wz.cell? ⟨g7, 1, none⟩ = some (.string xa) := (hSw.bk (b := g7) (t := 34) (cs := #[.int .i64 1, .string xa, .string xb, .int .i64 xn, .int .i64 xm]) (by simp)).cell 1; have a2 : wz.cell? ⟨g7, 2, none⟩ = some (.string xb) := (hSw.bk (b := g7) (t := 34) (cs := #[.int .i64 1, .string xa, .string xb, .int .i64 xn, .int .i64 xm]) (by simp)).cell 2; have b0 : wz.cell? ⟨g8, 0, none⟩ = some (.int .i64 3) := hSw.head.cell 0; have b1 : wz.cell? ⟨g8, 1, none⟩ = some (.string ya) := hSw.head.cell 1; go_simp; try (with_reducible rfl)
              try simp only [Act.put, List.setIfInBounds_toArray, List.set_cons_zero, List.set_cons_succ, List.getElem_toArray, List.getElem_cons_succ, List.getElem_cons_zero]
              refine take_at (some 118) (i := 30) (v := ?_) rfl rfl (by kernel_rfl) (by kernel_rfl) (by kernel_rfl) (fun _ _ _ h => h) (Or.inl ⟨by kernel_rfl, ?_⟩) hHeld ?_
              rotate_left
              · intro wz hSw; have a0 : wz.cell? ⟨g7, 0, none⟩ = some (.int .i64 1) := (hSw.bk (b := g7) (t := 34) (cs := #[.int .i64 1, .string xa, .string xb, .int .i64 xn, .int .i64 xm]) (by simp)).cell 0; have a1 : wz.cell? ⟨g7, 1, none⟩ = some (.string xa) := (hSw.bk (b := g7) (t := 34) (cs := #[.int .i64 1, .string xa, .string xb, .int .i64 xn, .int .i64 xm]) (by simp)).cell 1; have a2 : wz.cell? ⟨g7, 2, none⟩ = some (.string xb) := (hSw.bk (b := g7) (t := 34) (cs := #[.int .i64 1, .string xa, .string xb, .int .i64 xn, .int .i64 xm]) (by simp)).cell 2; have b0 : wz.cell? ⟨g8, 0, none⟩ = some (.int .i64 3) := hSw.head.cell 0; have b1 : wz.cell? ⟨g8, 1, none⟩ = some (.string ya) := hSw.head.cell 1; go_simp; try (with_reducible rfl)
              try simp only [Act.put, List.setIfInBounds_toArray, List.set_cons_zero, List.set_cons_succ, List.getElem_toArray, List.getElem_cons_succ, List.getElem_cons_zero]
              refine take_at (some 119) (i := 31) (v := ?_) rfl rfl (by kernel_rfl) (by kernel_rfl) (by kernel_rfl) (fun _ _ _ h => h) (Or.inl ⟨by kernel_rfl, ?_⟩) hHeld ?_
              rotate_left
              · intro wz hSw; have a0 : wz.cell? ⟨g7, 0, none⟩ = some (.int .i64 1) := (hSw.bk (b := g7) (t := 34) (cs := #[.int .i64 1, .string xa, .string xb, .int .i64 xn, .int .i64 xm]) (by simp)).cell 0; have a1 : wz.cell? ⟨g7, 1, none⟩ = some (.string xa) := (hSw.bk (b := g7) (t := 34) (cs := #[.int .i64 1, .string xa, .string xb, .int .i64 xn, .int .i64 xm]) (by simp)).cell 1; have a2 : wz.cell? ⟨g7, 2, none⟩ = some (.string xb) := (hSw.bk (b := g7) (t := 34) (cs := #[.int .i64 1, .string xa, .string xb, .int .i64 xn, .int .i64 xm]) (by simp)).cell 2; have b0 : wz.cell? ⟨g8, 0, none⟩ = some (.int .i64 3) := hSw.head.cell 0; have b1 : wz.cell? ⟨g8, 1, none⟩ = some (.string ya) := hSw.head.cell 1; go_simp; try (with_reducible rfl)
              try simp only [Act.put, List.setIfInBounds_toArray, List.set_cons_zero, List.set_cons_succ, List.getElem_toArray, List.getElem_cons_succ, List.getElem_cons_zero]
              refine take_at (some 120) (i := 32) (v := ?_) rfl rfl (by kernel_rfl) (by kernel_rfl) (by kernel_rfl) (fun _ _ _ h => h) (Or.inl ⟨by kernel_rfl, ?_⟩) hHeld ?_
              rotate_left
              · intro wz hSw; have a0 : wz.cell? ⟨g7, 0, none⟩ = some (.int .i64 1) := (hSw.bk (b := g7) (t := 34) (cs := #[.int .i64 1, .string xa, .string xb, .int .i64 xn, .int .i64 xm]) (by simp)).cell 0; have a1 : wz.cell? ⟨g7, 1, none⟩ = some (.string xa) := (hSw.bk (b := g7) (t := 34) (cs := #[.int .i64 1, .string xa, .string xb, .int .i64 xn, .int .i64 xm]) (by simp)).cell 1; have a2 : wz.cell? ⟨g7, 2, none⟩ = some (.string xb) := (hSw.bk (b := g7) (t := 34) (cs := #[.int .i64 1, .string xa, .string xb, .int .i64 xn, .int .i64 xm]) (by simp)).cell 2; have b0 : wz.cell? ⟨g8, 0, none⟩ = some (.int .i64 3) := hSw.head.cell 0; have b1 : wz.cell? ⟨g8, 1, none⟩ = some (.string ya) := hSw.head.cell 1; go_simp; try (with_reducible rfl)
              try simp only [Act.put, List.setIfInBounds_toArray, List.set_cons_zero, List.set_cons_succ, List.getElem_toArray, List.getElem_cons_succ, List.getElem_cons_zero]
              refine take_at (some 121) (i := 33) (v := ?_) rfl rfl (by kernel_rfl) (by kernel_rfl) (by kernel_rfl) (fun _ _ _ h => h) (Or.inl ⟨by kernel_rfl, ?_⟩) hHeld ?_
              rotate_left
              · intro wz hSw; go_simp; try (with_reducible rfl)
              try simp only [Act.put, List.setIfInBounds_toArray, List.set_cons_zero, List.set_cons_succ, List.getElem_toArray, List.getElem_cons_succ, List.getElem_cons_zero]
              refine wpAnyH_ready (rs := [34]) (by kernel_rfl) (by simp) (AllReadyH.cons rfl (fun K hK => ?_) AllReadyH.nil)
              rw [if_pos (by kernel_rfl)]
              go_simp
              refine (HWA.out _ _ hHeld).mono ?_
              rintro e z34 ⟨rfl, hz34⟩
              try dsimp only
              refine hK.out _ _ hz34 (fun hHeld => ?_)
              try simp only [Act.put, List.setIfInBounds_toArray, List.set_cons_zero, List.set_cons_succ, List.getElem_toArray, List.getElem_cons_succ, List.getElem_cons_zero]
              refine take_at (some 123) (i := 35) (v := ?_) rfl rfl (by kernel_rfl) (by kernel_rfl) (by kernel_rfl) (fun _ _ _ h => h) (Or.inl ⟨by kernel_rfl, ?_⟩) hHeld ?_
              rotate_left
              · intro wz hSw; have a0 : wz.cell? ⟨g7, 0, none⟩ = some (.int .i64 1) := (hSw.bk (b := g7) (t := 34) (cs := #[.int .i64 1, .string xa, .string xb, .int .i64 xn, .int .i64 xm]) (by simp)).cell 0; have a1 : wz.cell? ⟨g7, 1, none⟩ = some (.string xa) := (hSw.bk (b := g7) (t := 34) (cs := #[.int .i64 1, .string xa, .string xb, .int .i64 xn, .int .i64 xm]) (by simp)).cell 1; have a2 : wz.cell? ⟨g7, 2, none⟩ = some (.string xb) := (hSw.bk (b := g7) (t := 34) (cs := #[.int .i64 1, .string xa, .string xb, .int .i64 xn, .int .i64 xm]) (by simp)).cell 2; have b0 : wz.cell? ⟨g8, 0, none⟩ = some (.int .i64 3) := hSw.head.cell 0; have b1 : wz.cell? ⟨g8, 1, none⟩ = some (.string ya) := hSw.head.cell 1; go_simp; try (with_reducible rfl)
              try simp only [Act.put, List.setIfInBounds_toArray, List.set_cons_zero, List.set_cons_succ, List.getElem_toArray, List.getElem_cons_succ, List.getElem_cons_zero]
              refine take_at (some 124) (i := 36) (v := ?_) rfl rfl (by kernel_rfl) (by kernel_rfl) (by kernel_rfl) (fun _ _ _ h => h) (Or.inl ⟨by kernel_rfl, ?_⟩) hHeld ?_
              rotate_left
              · intro wz hSw; go_simp; try (with_reducible rfl)
              try simp only [Act.put, List.setIfInBounds_toArray, List.set_cons_zero, List.set_cons_succ, List.getElem_toArray, List.getElem_cons_succ, List.getElem_cons_zero]
              refine take_at (some 14) (i := 37) (v := ?_) rfl rfl (by kernel_rfl) (by kernel_rfl) (by kernel_rfl) (fun _ _ _ h => h) (Or.inl ⟨by kernel_rfl, ?_⟩) hHeld ?_
              rotate_left
              · intro wz hSw; go_simp; try (with_reducible rfl)
              try simp only [Act.put, List.setIfInBounds_toArray, List.set_cons_zero, List.set_cons_succ, List.getElem_toArray, List.getElem_cons_succ, List.getElem_cons_zero]
              refine wpAnyH_done (by kernel_rfl) ?_ _
              refine gen_qS (fun y => Ss u2 mb [] sb v s2 [(g8, 34, #[.int .i64 3, .string ya, .string yb, .int .i64 yn, .int .i64 ym]), (g7, 34, #[.int .i64 1, .string xa, .string xb, .int .i64 xn, .int .i64 xm])] y) hHeld (fun yz hyz => ?_)
              have HYZ := Lib.hid hyz
              clear hyz hHeld HY9
              have a1 : yz.cell? ⟨g7, 1, none⟩ = some (.string xa) := (HYZ.out.bk (b := g7) (t := 34) (cs := #[.int .i64 1, .string xa, .string xb, .int .i64 xn, .int .i64 xm]) (by simp)).cell 1
              go_wp2
              go_ret
              exact ⟨rfl, HSB.out.low HYZ.out⟩
end Go.Proofs.YtekobdmlgbffnaaDoor
