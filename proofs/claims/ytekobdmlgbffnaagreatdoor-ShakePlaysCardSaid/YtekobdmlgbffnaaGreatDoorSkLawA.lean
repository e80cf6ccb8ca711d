/- ShakePlays: the walk. (Written by gen_skplays.py.) -/
import Derived.Test.YtekobdmlgbffnaaGreatDoorG22
import Derived.Test.YtekobdmlgbffnaaGreatDoorG19
namespace Go.Proofs.YtekobdmlgbffnaaGreatDoor
set_option linter.unusedVariables false
set_option maxRecDepth 100000
set_option linter.unusedSimpArgs false
open Go.RowKit

set_option maxRecDepth 100000 in
set_option maxHeartbeats 16000000 in
theorem walk_ShakePlays (x : Cv) (B : Option Addr) (lo : List So) (d : Nat) (w : World) (h : InCf w x) (ho : InSk w B lo d) (hG : Gl w) :
    Calls Tryz.prog 4 #[.agg (ccs x), .slice B lo.length d] w fun e w' => e = .returned (.bool true) ∧ Below w.heap.size w w' := by
  have HGR := Lib.hid (fun u (hu : Below w.heap.size w u) => great_ok x u (h.on hu))
  have HN0 := Lib.hid (fun (hc : cfgB x.cg = false) => vnew_no h.rc hc)
  have HN1 := Lib.hid (fun (hc : cfgB x.cg = true) => vnew_yes h.rc hc)
  have HRT := Lib.hid h.rc.r
  have HMX := Lib.hid h.rc.f.max
  have HCP := Lib.hid h.rc.f.cap
  have HSE := Lib.hid (fun (hc : cfgB x.cg = true) (a b : ByteArray) k (hk : tkN x.cg.tens a b = some k) => (tkN_till hc hk).2.2.2)
  have HTN := Lib.hid (show ∀ a b, tkT x.ts a b = tkN x.cg.tens a b from fun a b => tkT_is _ _ _)
  have HGO := Lib.hid (fun u (hu : Below w.heap.size w u) => sgreat_ok B lo d u (ho.on hu))
  have HOP := Lib.hid ho
  have HCF := Lib.hid (fun (hc : cfgB x.cg = true) => show ∃ cg : Cg, cfgB cg = true ∧ x.cg.tens = cg.tens from ⟨x.cg, hc, rfl⟩)
  have HRN := Lib.hid (fun u (hu : Below w.heap.size w u) => rvnew_ok x w h.rc u hu)
  obtain ⟨C, hC⟩ : ∃ C, cfgB x.cg = C := ⟨_, rfl⟩
  simp only [hC] at HN0 HN1 HSE HRN HCF
  obtain ⟨tn, htn⟩ : ∃ tn, x.cg.tens = tn := ⟨_, rfl⟩
  rw [htn] at HN1 HSE HTN HCF
  obtain ⟨a0, a1, a2, a3, ts, A, c⟩ := x
  obtain ⟨n, hn⟩ : ∃ n, ts.length = n := ⟨_, rfl⟩
  have HN := Lib.hid hn
  dsimp only at HRT HMX HCP HTN
  simp only [ccs, hn] at HGR HN0 HN1 HRN ⊢
  have HX := Lib.hid (show Bx w w.heap.size 24 #[.int .i64 a0, .int .i64 a1, .int .i64 a2, .int .i64 a3, .slice A n c] (w.alloc (.cells #[.int .i64 a0, .int .i64 a1, .int .i64 a2, .int .i64 a3, .slice A n c] 24)) from Bx.new w _ _)
  have HG := Lib.hid hG
  clear h hn hC htn hG
  obtain ⟨nl, hnl⟩ : ∃ k, lo.length = k := ⟨_, rfl⟩
  have HNL := Lib.hid hnl
  have hnl47 : nl ≤ 140737488355328 := by rw [← hnl]; exact ho.n
  rw [hnl] at HGO ⊢
  clear hnl ho
  go_enter Tryz.func4, Tryz.ntmps4
  go_upto_region 2 with (go_at_call 19; refine (shead_ok _ (HG.out.below HX.out.l HG.out.size)).mono ?_; rintro e u1 ⟨rfl, hb⟩; have HX1 := Lib.hid (HX.out.on hb); clear hb)
  obtain ⟨g0, hg0⟩ : ∃ g, w.heap.size = g := ⟨_, rfl⟩
  have HG0 := Lib.hid hg0
  rw [hg0] at HX1 ⊢
  clear hg0
  have e0 : u1.cell? ⟨g0, 0, none⟩ = some (.int .i64 a0) := HX1.out.b.cell 0
  have e1 : u1.cell? ⟨g0, 1, none⟩ = some (.int .i64 a1) := HX1.out.b.cell 1
  have e2 : u1.cell? ⟨g0, 2, none⟩ = some (.int .i64 a2) := HX1.out.b.cell 2
  have e3 : u1.cell? ⟨g0, 3, none⟩ = some (.int .i64 a3) := HX1.out.b.cell 3
  have e4 : u1.cell? ⟨g0, 4, none⟩ = some (.slice A n c) := HX1.out.b.cell 4
  go_upto_region 4 with (first
    | (go_at_call 6; (with_reducible refine (HGR.out _ HX1.out.l).mono ?_); rintro e u2 ⟨g, rfl, _, hb⟩; have HX2 := Lib.hid (HX1.out.on hb); clear hb; cases g)
    | (go_at_call 20; (with_reducible refine (HGO.out _ HX2.out.l).mono ?_); rintro e u3 ⟨g2, rfl, hob, hb⟩; have HX3 := Lib.hid (HX2.out.on hb); have HOB := Lib.hid hob; clear hb hob; cases g2))
  any_goals (go_ret; first | exact ⟨rfl, HX2.out.l⟩ | exact ⟨rfl, HX3.out.l⟩)
  have HOB2 := Lib.hid (show SkB lo from HOB.out (by first | rfl | trivial))
  clear HOB e0 e1 e2 e3 e4
  have e0 : u3.cell? ⟨g0, 0, none⟩ = some (.int .i64 a0) := HX3.out.b.cell 0
  have e1 : u3.cell? ⟨g0, 1, none⟩ = some (.int .i64 a1) := HX3.out.b.cell 1
  have e2 : u3.cell? ⟨g0, 2, none⟩ = some (.int .i64 a2) := HX3.out.b.cell 2
  have e3 : u3.cell? ⟨g0, 3, none⟩ = some (.int .i64 a3) := HX3.out.b.cell 3
  have e4 : u3.cell? ⟨g0, 4, none⟩ = some (.slice A n c) := HX3.out.b.cell 4
  cases C with
  | false =>
    go_wp2_with (first
      | (go_at_call 21; (with_reducible refine (HN0.out (by first | rfl | trivial) _ HX3.out.l).mono ?_); rintro e u4 ⟨rfl, hb⟩; have HX4 := Lib.hid (HX3.out.on hb); clear hb e0 e1 e2 e3 e4; have e0 : u4.cell? ⟨g0, 0, none⟩ = some (.int .i64 a0) := HX4.out.b.cell 0; have e1 : u4.cell? ⟨g0, 1, none⟩ = some (.int .i64 a1) := HX4.out.b.cell 1; have e2 : u4.cell? ⟨g0, 2, none⟩ = some (.int .i64 a2) := HX4.out.b.cell 2; have e3 : u4.cell? ⟨g0, 3, none⟩ = some (.int .i64 a3) := HX4.out.b.cell 3; have e4 : u4.cell? ⟨g0, 4, none⟩ = some (.slice A n c) := HX4.out.b.cell 4)
      | (go_at_call 22; (with_reducible refine (HRN.out _ HX4.out.l).mono ?_); rintro e u5 ⟨h0, _, hb⟩; obtain rfl := h0 (by first | rfl | trivial); have HX5 := Lib.hid (HX4.out.on hb); clear hb h0))
    go_ret
    exact ⟨rfl, HX5.out.l⟩
  | true =>
    go_upto_region 5 with (go_at_call 21; (with_reducible refine (HN1.out (by first | rfl | trivial) _ HX3.out.l [(g0, 24, #[.int .i64 a0, .int .i64 a1, .int .i64 a2, .int .i64 a3, .slice A n c])] (fun b hb => by obtain rfl := List.mem_singleton.1 hb; exact HX3.out.b)).mono ?_); rintro e u4 ⟨v, mb, rfl, hv, _, _, _⟩; have HV4 := Lib.hid hv; clear hv)
    clear e0 e1 e2 e3 e4
    have e0 : u4.cell? ⟨g0, 0, none⟩ = some (.int .i64 a0) := HV4.out.head.cell 0
    have e1 : u4.cell? ⟨g0, 1, none⟩ = some (.int .i64 a1) := HV4.out.head.cell 1
    have e2 : u4.cell? ⟨g0, 2, none⟩ = some (.int .i64 a2) := HV4.out.head.cell 2
    have e3 : u4.cell? ⟨g0, 3, none⟩ = some (.int .i64 a3) := HV4.out.head.cell 3
    have e4 : u4.cell? ⟨g0, 4, none⟩ = some (.slice A n c) := HV4.out.head.cell 4
    go_upto_region 6 with (go_at_call 22; (with_reducible refine (HRN.out _ HV4.out.l).mono ?_); rintro e u5 ⟨_, h1, hb⟩; obtain ⟨rb, rfl, hrb, hz⟩ := h1 (by first | rfl | trivial); have HB5 := Lib.hid (And.intro hrb (And.intro hz hb)); clear hb h1 hrb hz)
    clear e0 e1 e2 e3 e4
    obtain ⟨ub, hub⟩ : ∃ ub, u4 = ub := ⟨_, rfl⟩
    obtain ⟨wb, hwb⟩ : ∃ wb, u5 = wb := ⟨_, rfl⟩
    rw [hub] at HV4 HB5
    rw [hwb] at HB5 ⊢
    clear hub hwb
    have HPB := Lib.hid (show Pb w ub wb v mb rb tn ⟨a0, a1, a2, a3, A, n, c, ts⟩ from ⟨HV4.out.less (fun b hb => by cases hb), HB5.out.1, HB5.out.2.2.size, ⟨HRT.out, HN.out, (by have h1 := HMX.out; have h2 := HCP.out; rw [HN.out] at h2; show n ≤ _; omega)⟩, HTN.out⟩)
    have HP0 := Lib.hid (show Pl ub wb mb rb ⟨a0, a1, a2, a3, A, n, c, ts⟩ [] [] [] wb from ⟨(Ke.of HB5.out.2.2).nil, HV4.out.va.mp.ke (Ke.of HB5.out.2.2) (by simp), HB5.out.2.1, fun b hb => by cases hb⟩)
    have HCF2 := Lib.hid (show ∃ cg : Cg, cfgB cg = true ∧ tn = cg.tens from HCF.out (by first | rfl | trivial))
    have HSE2 := Lib.hid (HSE.out (by first | rfl | trivial))
    obtain ⟨xr, hxr⟩ : ∃ xr : Rcf, (⟨a0, a1, a2, a3, A, n, c, ts⟩ : Rcf) = xr := ⟨_, rfl⟩
    rw [hxr] at HPB HP0
    clear hxr HV4 HB5 HN0 HN1 HRN HSE HX1 HX2 HX3 HRT HCF
    have HLB := Lib.hid (Nat.le_refl wb.heap.size)
    go_upto_region 9 with (go_at_call 23; (with_reducible refine (snew_ok v _).mono ?_); rintro e u6 ⟨rfl, hbs, hb⟩; have HP6 := Lib.hid ((HP0.out.on hb).add hbs); have HLE6 := Lib.hid hb.size; clear hbs hb)
    obtain ⟨sb, hsb⟩ : ∃ sb, wb.heap.size = sb := ⟨_, rfl⟩
    have HSBL := Lib.hid (show wb.heap.size ≤ sb by omega)
    have HSB6 := Lib.hid (show sb < u6.heap.size from by have := HP6.out.head.lt; rw [hsb] at this; exact this)
    rw [hsb] at HP6
    go_upto_region 10 with (go_at_call 24; (with_reducible refine (rqnew_ok rb _).mono ?_); rintro e u7 ⟨rfl, hbs, hb⟩; have HP7 := Lib.hid ((HP6.out.on hb).add hbs); clear hbs hb)
    obtain ⟨qb, hqb⟩ : ∃ qb, u6.heap.size = qb := ⟨_, rfl⟩
    rw [hqb] at HP7 HSB6
    have HQBL := Lib.hid (show wb.heap.size ≤ qb by have := HSBL.out; have := HSB6.out; omega)
    have HNE := Lib.hid (show sb ≠ qb by have := HSB6.out; omega)
    rw [hqb]
    try rw [hsb]
    clear hsb hqb HP0 HP6 HLE6 HLB HSB6
    go_wp2_with fail
    go_loopw [10] (fun v10 wr => ∃ (i : Nat) (g P : Rev) (s : Sk) (st : Int) (t k n' : ByteArray), i ≤ nl ∧ v10 = .int .i64 (i : Int) ∧ Hid (g.length ≤ i ∧ P.length ≤ i) ∧ Hid (∀ a b, inR g a b = inR P a b) ∧ Hid (skB s ∧ RqS s st t k n' ∧ Rsm t k n') ∧ Hid (Pl ub wb mb rb xr g P [(qb, 116, #[.pointer (some ⟨rb, 0, none⟩), .int .i64 st, .string t, .string k, .string n']), (sb, 114, shc v s)] wr)) (fun v10 _ => nl - (intOf v10).toNat)
    case atStart => exact ⟨0, [], [], .new, 0, ⟨#[]⟩, ⟨#[]⟩, ⟨#[]⟩, by omega, rfl, Lib.hid ⟨Nat.le_refl _, Nat.le_refl _⟩, Lib.hid (fun _ _ => rfl), Lib.hid ⟨trivial, rfl, ⟨by decide, by decide, by decide⟩⟩, HP7⟩
    case round =>
      obtain ⟨i, g, P, s, st, t, k, n', hi, rfl, HGL, HQ, HST, HV⟩ := hrel
      by_cases hi1 : i < nl
      · have hi2 : (i : Int) < (nl : Int) := by omega
        obtain ⟨b, o, x, rfl, hx, hsm, hc⟩ := HOP.out.at8 i (by rw [HNL.out]; exact hi1)
        obtain ⟨c0, c1, c2, c3, c4, c5, c6, c7⟩ := hc wr (HPB.out.low HV.out)
        have HFE := Lib.hid (HOB2.out.x x (List.mem_of_getElem? hx))
        obtain ⟨xw, ⟨xk, xa, xb, xn, xm⟩, xo, xs⟩ := x
        dsimp only at c0 c1 c2 c3 c4 c5 c6 c7
        have HZS := Lib.hid (show xa.size ≤ 9000 ∧ xb.size ≤ 9000 ∧ xs.size ≤ 2000 by have h1 := HFE.out; unfold So.few at h1; dsimp only at h1; omega)
        have HI := Lib.hid (show g.length ≤ 200 ∧ P.length ≤ 200 by have h1 := HGL.out; have h2 := HOB2.out.n; rw [HNL.out] at h2; omega)
        clear hc hx hsm HFE
        go_upto_region 16 with fail
        clear c0 c1 c2 c3 c4 c5 c6 c7
        have HVN := Lib.hid (HV.out.new 57 #[.int .i64 xw, .int .i64 xk, .string xa, .string xb, .int .i64 xn, .int .i64 xm, .int .i64 xo, .string xs])
        obtain ⟨wn, hwn⟩ : ∃ wn, wr.alloc (.cells #[.int .i64 xw, .int .i64 xk, .string xa, .string xb, .int .i64 xn, .int .i64 xm, .int .i64 xo, .string xs] 57) = wn := ⟨_, rfl⟩
        obtain ⟨gb, hgb⟩ : ∃ gb, wr.heap.size = gb := ⟨_, rfl⟩
        have HGB := Lib.hid (show sb ≠ gb ∧ qb ≠ gb ∧ wb.heap.size ≤ gb from by
          have h1 := (HV.out.bk (b := sb) (t := 114) (cs := shc v s) (by simp)).lt
          have h2 := HV.out.head.lt
          have h3 := HV.out.z.bs
          omega)
        rw [hwn, hgb] at HVN
        rw [hwn] ; try rw [hgb]
        clear hwn hgb HV
        by_cases hw1 : xw = 1
        · subst hw1
          have HGN := Lib.hid (show ∀ y ∈ ([(gb, 57, #[.int .i64 1, .int .i64 xk, .string xa, .string xb, .int .i64 xn, .int .i64 xm, .int .i64 xo, .string xs]), (qb, 116, #[.pointer (some ⟨rb, 0, none⟩), .int .i64 st, .string t, .string k, .string n']), (sb, 114, shc v s)] : List (Nat × TypeId × Array Value)), y.2.1 ≠ 9 ∧ y.1 ≠ rb from fun y hy => by
            have h1 := HVN.out.z.lt
            have h2 := HSBL.out
            have h3 := HQBL.out
            have h4 := HGB.out
            simp only [List.mem_cons, List.not_mem_nil, or_false] at hy
            rcases hy with rfl | rfl | rfl
            · exact ⟨by show (57 : TypeId) ≠ 9; decide, by show gb ≠ rb; omega⟩
            · exact ⟨by show (116 : TypeId) ≠ 9; decide, by show qb ≠ rb; omega⟩
            · exact ⟨by show (114 : TypeId) ≠ 9; decide, by show sb ≠ rb; omega⟩)
          have HRA := Lib.hid (fun u (hu : Pl ub wb mb rb xr g P [(gb, 57, #[.int .i64 1, .int .i64 xk, .string xa, .string xb, .int .i64 xn, .int .i64 xm, .int .i64 xo, .string xs]), (qb, 116, #[.pointer (some ⟨rb, 0, none⟩), .int .i64 st, .string t, .string k, .string n']), (sb, 114, shc v s)] u) => pl_rev HPB.out hu (by have := HI.out.1; omega) xa xb)
          have HRB := Lib.hid (fun u (hu : Pl ub wb mb rb xr (rvG (tkN tn xa xb) g xa xb) P [(gb, 57, #[.int .i64 1, .int .i64 xk, .string xa, .string xb, .int .i64 xn, .int .i64 xm, .int .i64 xo, .string xs]), (qb, 116, #[.pointer (some ⟨rb, 0, none⟩), .int .i64 st, .string t, .string k, .string n']), (sb, 114, shc v s)] u) => pl_rrev HPB.out hu (by have := HI.out.2; omega) xa xb HGN.out)
          have HQ8 := Lib.hid (rvP_in (o := tkN tn xa xb) HQ.out xa xb)
          have HL8 := Lib.hid (show (rvG (tkN tn xa xb) g xa xb).length ≤ i + 1 ∧ (rvP (tkN tn xa xb) P xa xb).length ≤ i + 1 ∧ (rvP (tkN tn xa xb) P xa xb).length ≤ 1000 by have h1 := HGL.out; have h3 := HI.out; have h2 := @rv_lenS (tkN tn xa xb) g xa xb; have h4 := @rvP_len (tkN tn xa xb) P xa xb; omega)
          obtain ⟨rv, hrv⟩ : ∃ rv, rvB (tkN tn xa xb) (inR g xa xb) = rv := ⟨_, rfl⟩
          obtain ⟨rv2, hrv2⟩ : ∃ rv, rvB (tkN tn xa xb) (inR P xa xb) = rv := ⟨_, rfl⟩
          simp only [hrv] at HRA
          simp only [hrv2] at HRB
          obtain ⟨h1g, e1g⟩ : ∃ z, rvG (tkN tn xa xb) g xa xb = z := ⟨_, rfl⟩
          obtain ⟨h2g, e2g⟩ : ∃ z, rvP (tkN tn xa xb) P xa xb = z := ⟨_, rfl⟩
          simp only [e1g] at HRA
          simp only [e1g, e2g] at HRB
          rw [e1g, e2g] at HL8
          simp only [e1g, e2g] at HQ8
          clear hrv hrv2 e1g e2g
          have d0 : wn.cell? ⟨gb, 0, none⟩ = some (.int .i64 1) := (HVN.out.bk (b := gb) (t := 57) (cs := #[.int .i64 1, .int .i64 xk, .string xa, .string xb, .int .i64 xn, .int .i64 xm, .int .i64 xo, .string xs]) (by simp)).cell 0
          have d1 : wn.cell? ⟨gb, 1, none⟩ = some (.int .i64 xk) := (HVN.out.bk (b := gb) (t := 57) (cs := #[.int .i64 1, .int .i64 xk, .string xa, .string xb, .int .i64 xn, .int .i64 xm, .int .i64 xo, .string xs]) (by simp)).cell 1
          have d2 : wn.cell? ⟨gb, 2, none⟩ = some (.string xa) := (HVN.out.bk (b := gb) (t := 57) (cs := #[.int .i64 1, .int .i64 xk, .string xa, .string xb, .int .i64 xn, .int .i64 xm, .int .i64 xo, .string xs]) (by simp)).cell 2
          have d3 : wn.cell? ⟨gb, 3, none⟩ = some (.string xb) := (HVN.out.bk (b := gb) (t := 57) (cs := #[.int .i64 1, .int .i64 xk, .string xa, .string xb, .int .i64 xn, .int .i64 xm, .int .i64 xo, .string xs]) (by simp)).cell 3
          have d4 : wn.cell? ⟨gb, 4, none⟩ = some (.int .i64 xn) := (HVN.out.bk (b := gb) (t := 57) (cs := #[.int .i64 1, .int .i64 xk, .string xa, .string xb, .int .i64 xn, .int .i64 xm, .int .i64 xo, .string xs]) (by simp)).cell 4
          have d5 : wn.cell? ⟨gb, 5, none⟩ = some (.int .i64 xm) := (HVN.out.bk (b := gb) (t := 57) (cs := #[.int .i64 1, .int .i64 xk, .string xa, .string xb, .int .i64 xn, .int .i64 xm, .int .i64 xo, .string xs]) (by simp)).cell 5
          have d6 : wn.cell? ⟨gb, 6, none⟩ = some (.int .i64 xo) := (HVN.out.bk (b := gb) (t := 57) (cs := #[.int .i64 1, .int .i64 xk, .string xa, .string xb, .int .i64 xn, .int .i64 xm, .int .i64 xo, .string xs]) (by simp)).cell 6
          have d7 : wn.cell? ⟨gb, 7, none⟩ = some (.string xs) := (HVN.out.bk (b := gb) (t := 57) (cs := #[.int .i64 1, .int .i64 xk, .string xa, .string xb, .int .i64 xn, .int .i64 xm, .int .i64 xo, .string xs]) (by simp)).cell 7
          go_upto_region 19 with (first
            | (go_at_call 25; (with_reducible refine (HRA.out _ HVN.out).mono ?_); rintro e u8 ⟨rfl, hv⟩; have HG8 := Lib.hid hv; clear hv d0 d1 d2 d3 d4 d5 d6 d7; have d0 : u8.cell? ⟨gb, 0, none⟩ = some (.int .i64 1) := (HG8.out.bk (b := gb) (t := 57) (cs := #[.int .i64 1, .int .i64 xk, .string xa, .string xb, .int .i64 xn, .int .i64 xm, .int .i64 xo, .string xs]) (by simp)).cell 0; have d1 : u8.cell? ⟨gb, 1, none⟩ = some (.int .i64 xk) := (HG8.out.bk (b := gb) (t := 57) (cs := #[.int .i64 1, .int .i64 xk, .string xa, .string xb, .int .i64 xn, .int .i64 xm, .int .i64 xo, .string xs]) (by simp)).cell 1; have d2 : u8.cell? ⟨gb, 2, none⟩ = some (.string xa) := (HG8.out.bk (b := gb) (t := 57) (cs := #[.int .i64 1, .int .i64 xk, .string xa, .string xb, .int .i64 xn, .int .i64 xm, .int .i64 xo, .string xs]) (by simp)).cell 2; have d3 : u8.cell? ⟨gb, 3, none⟩ = some (.string xb) := (HG8.out.bk (b := gb) (t := 57) (cs := #[.int .i64 1, .int .i64 xk, .string xa, .string xb, .int .i64 xn, .int .i64 xm, .int .i64 xo, .string xs]) (by simp)).cell 3; have d4 : u8.cell? ⟨gb, 4, none⟩ = some (.int .i64 xn) := (HG8.out.bk (b := gb) (t := 57) (cs := #[.int .i64 1, .int .i64 xk, .string xa, .string xb, .int .i64 xn, .int .i64 xm, .int .i64 xo, .string xs]) (by simp)).cell 4; have d5 : u8.cell? ⟨gb, 5, none⟩ = some (.int .i64 xm) := (HG8.out.bk (b := gb) (t := 57) (cs := #[.int .i64 1, .int .i64 xk, .string xa, .string xb, .int .i64 xn, .int .i64 xm, .int .i64 xo, .string xs]) (by simp)).cell 5; have d6 : u8.cell? ⟨gb, 6, none⟩ = some (.int .i64 xo) := (HG8.out.bk (b := gb) (t := 57) (cs := #[.int .i64 1, .int .i64 xk, .string xa, .string xb, .int .i64 xn, .int .i64 xm, .int .i64 xo, .string xs]) (by simp)).cell 6; have d7 : u8.cell? ⟨gb, 7, none⟩ = some (.string xs) := (HG8.out.bk (b := gb) (t := 57) (cs := #[.int .i64 1, .int .i64 xk, .string xa, .string xb, .int .i64 xn, .int .i64 xm, .int .i64 xo, .string xs]) (by simp)).cell 7)
            | (go_at_call 26; (with_reducible refine (HRB.out _ HG8.out).mono ?_); rintro e u9 ⟨rfl, hv⟩; have HG9 := Lib.hid hv; clear hv))
          clear d0 d1 d2 d3 d4 d5 d6 d7 HG8 HVN HQ HGL HI HRA HRB
          have d0 : u9.cell? ⟨gb, 0, none⟩ = some (.int .i64 1) := (HG9.out.bk (b := gb) (t := 57) (cs := #[.int .i64 1, .int .i64 xk, .string xa, .string xb, .int .i64 xn, .int .i64 xm, .int .i64 xo, .string xs]) (by simp)).cell 0
          have d1 : u9.cell? ⟨gb, 1, none⟩ = some (.int .i64 xk) := (HG9.out.bk (b := gb) (t := 57) (cs := #[.int .i64 1, .int .i64 xk, .string xa, .string xb, .int .i64 xn, .int .i64 xm, .int .i64 xo, .string xs]) (by simp)).cell 1
          have d2 : u9.cell? ⟨gb, 2, none⟩ = some (.string xa) := (HG9.out.bk (b := gb) (t := 57) (cs := #[.int .i64 1, .int .i64 xk, .string xa, .string xb, .int .i64 xn, .int .i64 xm, .int .i64 xo, .string xs]) (by simp)).cell 2
          have d3 : u9.cell? ⟨gb, 3, none⟩ = some (.string xb) := (HG9.out.bk (b := gb) (t := 57) (cs := #[.int .i64 1, .int .i64 xk, .string xa, .string xb, .int .i64 xn, .int .i64 xm, .int .i64 xo, .string xs]) (by simp)).cell 3
          have d4 : u9.cell? ⟨gb, 4, none⟩ = some (.int .i64 xn) := (HG9.out.bk (b := gb) (t := 57) (cs := #[.int .i64 1, .int .i64 xk, .string xa, .string xb, .int .i64 xn, .int .i64 xm, .int .i64 xo, .string xs]) (by simp)).cell 4
          have d5 : u9.cell? ⟨gb, 5, none⟩ = some (.int .i64 xm) := (HG9.out.bk (b := gb) (t := 57) (cs := #[.int .i64 1, .int .i64 xk, .string xa, .string xb, .int .i64 xn, .int .i64 xm, .int .i64 xo, .string xs]) (by simp)).cell 5
          have d6 : u9.cell? ⟨gb, 6, none⟩ = some (.int .i64 xo) := (HG9.out.bk (b := gb) (t := 57) (cs := #[.int .i64 1, .int .i64 xk, .string xa, .string xb, .int .i64 xn, .int .i64 xm, .int .i64 xo, .string xs]) (by simp)).cell 6
          have d7 : u9.cell? ⟨gb, 7, none⟩ = some (.string xs) := (HG9.out.bk (b := gb) (t := 57) (cs := #[.int .i64 1, .int .i64 xk, .string xa, .string xb, .int .i64 xn, .int .i64 xm, .int .i64 xo, .string xs]) (by simp)).cell 7
          obtain ⟨hsk, hrq, hrs⟩ := HST.out
          have HA := Lib.hid (show Pl ub wb mb rb xr h1g h2g [(sb, 114, shc v s), (qb, 116, #[.pointer (some ⟨rb, 0, none⟩), .int .i64 st, .string t, .string k, .string n']), (gb, 57, #[.int .i64 1, .int .i64 xk, .string xa, .string xb, .int .i64 xn, .int .i64 xm, .int .i64 xo, .string xs])] u9 from HG9.out.less (by intro b hb; simp only [List.mem_cons, List.not_mem_nil, or_false] at hb ⊢; rcases hb with h | h | h <;> simp [h]))
          have hskb : skB (hsS (ckF tn h1g) s ⟨xk, xa, xb, xn, xm⟩ xo xs) := by obtain ⟨cg, hcg, hce⟩ := HCF2.out; rw [hce]; exact hs_b hcg h1g s ⟨xk, xa, xb, xn, xm⟩ xo xs hsk
          have HH1 := Lib.hid (fun u (hu : Pl ub wb mb rb xr h1g h2g [(sb, 114, shc v s), (qb, 116, #[.pointer (some ⟨rb, 0, none⟩), .int .i64 st, .string t, .string k, .string n']), (gb, 57, #[.int .i64 1, .int .i64 xk, .string xa, .string xb, .int .i64 xn, .int .i64 xm, .int .i64 xo, .string xs])] u) => pl_hear HPB.out HCF2.out HG.out hu HSBL.out (by intro y hy; have h1 := HGB.out; have h2 := HNE.out; simp only [List.mem_cons, List.not_mem_nil, or_false] at hy; rcases hy with rfl | rfl <;> (show _ ≠ sb; omega)) hsk ⟨xk, xa, xb, xn, xm⟩ xo xs (show xa.size ≤ 1099511627776 by have := HZS.out; omega) (show xb.size ≤ 140737488355328 by have := HZS.out; omega))
          have HH2 := Lib.hid (fun (L : List (Nat × TypeId × Array Value)) (hL : ∀ y ∈ L, y.1 ≠ qb) u (hu : Pl ub wb mb rb xr h1g h2g ((qb, 116, #[.pointer (some ⟨rb, 0, none⟩), .int .i64 st, .string t, .string k, .string n']) :: L) u) => pl_rhear HPB.out HSE2.out HQ8.out HL8.out.2.2 hu HQBL.out hL hrq hrs ⟨xk, xa, xb, xn, xm⟩ xo xs (show xa.size ≤ 140737488355328 by have := HZS.out; omega) (show xb.size ≤ 140737488355328 by have := HZS.out; omega))
          obtain ⟨s', hs'⟩ : ∃ s', hsS (ckF tn h1g) s ⟨xk, xa, xb, xn, xm⟩ xo xs = s' := ⟨_, rfl⟩
          obtain ⟨mm, hmm⟩ : ∃ mm, hsM (ckF tn h1g) s ⟨xk, xa, xb, xn, xm⟩ xo xs = mm := ⟨_, rfl⟩
          obtain ⟨ob, hob⟩ : ∃ ob, (!ovS s) = ob := ⟨_, rfl⟩
          rw [hs'] at hskb
          simp only [hs', hmm, hob] at HH1 HH2
          obtain ⟨mk, ma, mb', mn, mq⟩ := mm
          have HSK := Lib.hid hskb
          clear hs' hmm hob hskb hsk hrq hrs HST HG9
          go_upto_region 20 with (go_at_call 27; (with_reducible refine (HH1.out _ HA.out).mono ?_); rintro e u10 ⟨rfl, hv⟩; have HB10 := Lib.hid hv; clear hv HA d0 d1 d2 d3 d4 d5 d6 d7)
          have HC10 := Lib.hid (HB10.out.new 55 #[.int .i64 mk, .string ma, .string mb', .int .i64 mn, .int .i64 mq])
          have HM1 := Lib.hid (show sb < u10.heap.size ∧ qb < u10.heap.size ∧ gb < u10.heap.size from ⟨HB10.out.head.lt, (HB10.out.bk (b := qb) (t := 116) (cs := #[.pointer (some ⟨rb, 0, none⟩), .int .i64 st, .string t, .string k, .string n']) (by simp)).lt, (HB10.out.bk (b := gb) (t := 57) (cs := #[.int .i64 1, .int .i64 xk, .string xa, .string xb, .int .i64 xn, .int .i64 xm, .int .i64 xo, .string xs]) (by simp)).lt⟩)
          obtain ⟨y10, hy⟩ : ∃ y, u10.alloc (.cells #[.int .i64 mk, .string ma, .string mb', .int .i64 mn, .int .i64 mq] 55) = y := ⟨_, rfl⟩
          obtain ⟨g10, hg⟩ : ∃ g, u10.heap.size = g := ⟨_, rfl⟩
          rw [hy, hg] at HC10
          rw [hg] at HM1
          rw [hy] ; rw [hg]
          clear hy hg HB10 HH1
          have HD10 := Lib.hid (show Pl ub wb mb rb xr h1g h2g ((qb, 116, #[.pointer (some ⟨rb, 0, none⟩), .int .i64 st, .string t, .string k, .string n']) :: [(g10, 55, #[.int .i64 mk, .string ma, .string mb', .int .i64 mn, .int .i64 mq]), (sb, 114, shc v s'), (gb, 57, #[.int .i64 1, .int .i64 xk, .string xa, .string xb, .int .i64 xn, .int .i64 xm, .int .i64 xo, .string xs])]) y10 from HC10.out.less (by intro b hb; simp only [List.mem_cons, List.not_mem_nil, or_false] at hb ⊢; rcases hb with h | h | h | h <;> simp [h]))
          have HLN := Lib.hid (show ∀ y ∈ ([(g10, 55, #[.int .i64 mk, .string ma, .string mb', .int .i64 mn, .int .i64 mq]), (sb, 114, shc v s'), (gb, 57, #[.int .i64 1, .int .i64 xk, .string xa, .string xb, .int .i64 xn, .int .i64 xm, .int .i64 xo, .string xs])] : List (Nat × TypeId × Array Value)), y.1 ≠ qb from by intro y hy; have h1 := HGB.out; have h2 := HNE.out; have h3 := HM1.out; simp only [List.mem_cons, List.not_mem_nil, or_false] at hy; rcases hy with rfl | rfl | rfl <;> (show _ ≠ qb; omega))
          clear HC10
          have d0 : y10.cell? ⟨gb, 0, none⟩ = some (.int .i64 1) := (HD10.out.bk (b := gb) (t := 57) (cs := #[.int .i64 1, .int .i64 xk, .string xa, .string xb, .int .i64 xn, .int .i64 xm, .int .i64 xo, .string xs]) (by simp)).cell 0
          have d1 : y10.cell? ⟨gb, 1, none⟩ = some (.int .i64 xk) := (HD10.out.bk (b := gb) (t := 57) (cs := #[.int .i64 1, .int .i64 xk, .string xa, .string xb, .int .i64 xn, .int .i64 xm, .int .i64 xo, .string xs]) (by simp)).cell 1
          have d2 : y10.cell? ⟨gb, 2, none⟩ = some (.string xa) := (HD10.out.bk (b := gb) (t := 57) (cs := #[.int .i64 1, .int .i64 xk, .string xa, .string xb, .int .i64 xn, .int .i64 xm, .int .i64 xo, .string xs]) (by simp)).cell 2
          have d3 : y10.cell? ⟨gb, 3, none⟩ = some (.string xb) := (HD10.out.bk (b := gb) (t := 57) (cs := #[.int .i64 1, .int .i64 xk, .string xa, .string xb, .int .i64 xn, .int .i64 xm, .int .i64 xo, .string xs]) (by simp)).cell 3
          have d4 : y10.cell? ⟨gb, 4, none⟩ = some (.int .i64 xn) := (HD10.out.bk (b := gb) (t := 57) (cs := #[.int .i64 1, .int .i64 xk, .string xa, .string xb, .int .i64 xn, .int .i64 xm, .int .i64 xo, .string xs]) (by simp)).cell 4
          have d5 : y10.cell? ⟨gb, 5, none⟩ = some (.int .i64 xm) := (HD10.out.bk (b := gb) (t := 57) (cs := #[.int .i64 1, .int .i64 xk, .string xa, .string xb, .int .i64 xn, .int .i64 xm, .int .i64 xo, .string xs]) (by simp)).cell 5
          have d6 : y10.cell? ⟨gb, 6, none⟩ = some (.int .i64 xo) := (HD10.out.bk (b := gb) (t := 57) (cs := #[.int .i64 1, .int .i64 xk, .string xa, .string xb, .int .i64 xn, .int .i64 xm, .int .i64 xo, .string xs]) (by simp)).cell 6
          have d7 : y10.cell? ⟨gb, 7, none⟩ = some (.string xs) := (HD10.out.bk (b := gb) (t := 57) (cs := #[.int .i64 1, .int .i64 xk, .string xa, .string xb, .int .i64 xn, .int .i64 xm, .int .i64 xo, .string xs]) (by simp)).cell 7
          go_upto_region 21 with (go_at_call 28; (with_reducible refine (HH2.out _ HLN.out _ HD10.out).mono ?_); rintro e u11 ⟨rfl, st', t', k', n2, hv, hrq, hrs⟩; have HB11 := Lib.hid hv; have HRQ := Lib.hid hrq; have HRS := Lib.hid hrs; clear hv hrq hrs HD10 d0 d1 d2 d3 d4 d5 d6 d7)
          have HC11 := Lib.hid (HB11.out.new 55 #[.int .i64 mk, .string ma, .string mb', .int .i64 mn, .int .i64 mq])
          obtain ⟨y11, hy⟩ : ∃ y, u11.alloc (.cells #[.int .i64 mk, .string ma, .string mb', .int .i64 mn, .int .i64 mq] 55) = y := ⟨_, rfl⟩
          obtain ⟨g11, hg⟩ : ∃ g, u11.heap.size = g := ⟨_, rfl⟩
          rw [hy, hg] at HC11
          rw [hy] ; rw [hg]
          clear hy hg HB11 HH2 HLN
          have HE11 := Lib.hid (show Pl ub wb mb rb xr h1g h2g ((sb, 114, shc v s') :: [(qb, 116, #[.pointer (some ⟨rb, 0, none⟩), .int .i64 st', .string t', .string k', .string n2]), (g11, 55, #[.int .i64 mk, .string ma, .string mb', .int .i64 mn, .int .i64 mq]), (g10, 55, #[.int .i64 mk, .string ma, .string mb', .int .i64 mn, .int .i64 mq])]) y11 from HC11.out.less (by intro b hb; simp only [List.mem_cons, List.not_mem_nil, or_false] at hb ⊢; rcases hb with h | h | h | h <;> simp [h]))
          clear HC11
          have HW1 := Lib.hid (fun u (hu : Pl ub wb mb rb xr h1g h2g ((sb, 114, shc v s') :: [(qb, 116, #[.pointer (some ⟨rb, 0, none⟩), .int .i64 st', .string t', .string k', .string n2]), (g11, 55, #[.int .i64 mk, .string ma, .string mb', .int .i64 mn, .int .i64 mq]), (g10, 55, #[.int .i64 mk, .string ma, .string mb', .int .i64 mn, .int .i64 mq])]) u) => pl_who hu HSK.out)
          have HW2 := Lib.hid (fun u (hu : Pl ub wb mb rb xr h1g h2g ((qb, 116, #[.pointer (some ⟨rb, 0, none⟩), .int .i64 st', .string t', .string k', .string n2]) :: [(sb, 114, shc v s'), (g11, 55, #[.int .i64 mk, .string ma, .string mb', .int .i64 mn, .int .i64 mq]), (g10, 55, #[.int .i64 mk, .string ma, .string mb', .int .i64 mn, .int .i64 mq])]) u) => pl_rwho hu HRQ.out)
          have HO1 := Lib.hid (fun u (hu : Pl ub wb mb rb xr h1g h2g ((sb, 114, shc v s') :: [(qb, 116, #[.pointer (some ⟨rb, 0, none⟩), .int .i64 st', .string t', .string k', .string n2]), (g11, 55, #[.int .i64 mk, .string ma, .string mb', .int .i64 mn, .int .i64 mq]), (g10, 55, #[.int .i64 mk, .string ma, .string mb', .int .i64 mn, .int .i64 mq])]) u) => pl_over hu)
          have HO2 := Lib.hid (fun u (hu : Pl ub wb mb rb xr h1g h2g ((qb, 116, #[.pointer (some ⟨rb, 0, none⟩), .int .i64 st', .string t', .string k', .string n2]) :: [(sb, 114, shc v s'), (g11, 55, #[.int .i64 mk, .string ma, .string mb', .int .i64 mn, .int .i64 mq]), (g10, 55, #[.int .i64 mk, .string ma, .string mb', .int .i64 mn, .int .i64 mq])]) u) => pl_rover hu HRQ.out)
          obtain ⟨wh, hwh⟩ : ∃ z, whS s' = z := ⟨_, rfl⟩
          obtain ⟨kn, hkn⟩ : ∃ z, knS s' = z := ⟨_, rfl⟩
          obtain ⟨ov, hov⟩ : ∃ z, ovS s' = z := ⟨_, rfl⟩
          simp only [hwh, hkn] at HW1 HW2
          simp only [hov] at HO1 HO2
          clear hwh hkn hov
          have HS1 := Lib.hid (fun u (hu : Pl ub wb mb rb xr h1g h2g ((sb, 114, shc v s') :: [(qb, 116, #[.pointer (some ⟨rb, 0, none⟩), .int .i64 st', .string t', .string k', .string n2]), (g11, 55, #[.int .i64 mk, .string ma, .string mb', .int .i64 mn, .int .i64 mq]), (g10, 55, #[.int .i64 mk, .string ma, .string mb', .int .i64 mn, .int .i64 mq])]) u) => (show Pl ub wb mb rb xr h1g h2g ((qb, 116, #[.pointer (some ⟨rb, 0, none⟩), .int .i64 st', .string t', .string k', .string n2]) :: [(sb, 114, shc v s'), (g11, 55, #[.int .i64 mk, .string ma, .string mb', .int .i64 mn, .int .i64 mq]), (g10, 55, #[.int .i64 mk, .string ma, .string mb', .int .i64 mn, .int .i64 mq])]) u from hu.less (by intro b hb; simp only [List.mem_cons, List.not_mem_nil, or_false] at hb ⊢; rcases hb with h | h | h | h <;> simp [h])))
          have HS2 := Lib.hid (fun u (hu : Pl ub wb mb rb xr h1g h2g ((qb, 116, #[.pointer (some ⟨rb, 0, none⟩), .int .i64 st', .string t', .string k', .string n2]) :: [(sb, 114, shc v s'), (g11, 55, #[.int .i64 mk, .string ma, .string mb', .int .i64 mn, .int .i64 mq]), (g10, 55, #[.int .i64 mk, .string ma, .string mb', .int .i64 mn, .int .i64 mq])]) u) => (show Pl ub wb mb rb xr h1g h2g ((sb, 114, shc v s') :: [(qb, 116, #[.pointer (some ⟨rb, 0, none⟩), .int .i64 st', .string t', .string k', .string n2]), (g11, 55, #[.int .i64 mk, .string ma, .string mb', .int .i64 mn, .int .i64 mq]), (g10, 55, #[.int .i64 mk, .string ma, .string mb', .int .i64 mn, .int .i64 mq])]) u from hu.less (by intro b hb; simp only [List.mem_cons, List.not_mem_nil, or_false] at hb ⊢; rcases hb with h | h | h | h <;> simp [h])))
          go_upto_region 22 with (go_at_call 29; (with_reducible refine (HW1.out _ HE11.out).mono ?_); rintro e u12 ⟨rfl, hv⟩; have HB12 := Lib.hid (HS1.out _ hv); clear hv HE11)
          go_upto_region 23 with (go_at_call 30; (with_reducible refine (HW2.out _ HB12.out).mono ?_); rintro e u13 ⟨rfl, hv⟩; have HB13 := Lib.hid (HS2.out _ hv); clear hv HB12)
          have a_0 : u13.cell? ⟨g10, 0, none⟩ = some (.int .i64 mk) := (HB13.out.bk (b := g10) (t := 55) (cs := #[.int .i64 mk, .string ma, .string mb', .int .i64 mn, .int .i64 mq]) (by simp)).cell 0
          have a_1 : u13.cell? ⟨g10, 1, none⟩ = some (.string ma) := (HB13.out.bk (b := g10) (t := 55) (cs := #[.int .i64 mk, .string ma, .string mb', .int .i64 mn, .int .i64 mq]) (by simp)).cell 1
          have a_2 : u13.cell? ⟨g10, 2, none⟩ = some (.string mb') := (HB13.out.bk (b := g10) (t := 55) (cs := #[.int .i64 mk, .string ma, .string mb', .int .i64 mn, .int .i64 mq]) (by simp)).cell 2
          have a_3 : u13.cell? ⟨g10, 3, none⟩ = some (.int .i64 mn) := (HB13.out.bk (b := g10) (t := 55) (cs := #[.int .i64 mk, .string ma, .string mb', .int .i64 mn, .int .i64 mq]) (by simp)).cell 3
          have a_4 : u13.cell? ⟨g10, 4, none⟩ = some (.int .i64 mq) := (HB13.out.bk (b := g10) (t := 55) (cs := #[.int .i64 mk, .string ma, .string mb', .int .i64 mn, .int .i64 mq]) (by simp)).cell 4
          have b_0 : u13.cell? ⟨g11, 0, none⟩ = some (.int .i64 mk) := (HB13.out.bk (b := g11) (t := 55) (cs := #[.int .i64 mk, .string ma, .string mb', .int .i64 mn, .int .i64 mq]) (by simp)).cell 0
          have b_1 : u13.cell? ⟨g11, 1, none⟩ = some (.string ma) := (HB13.out.bk (b := g11) (t := 55) (cs := #[.int .i64 mk, .string ma, .string mb', .int .i64 mn, .int .i64 mq]) (by simp)).cell 1
          have b_2 : u13.cell? ⟨g11, 2, none⟩ = some (.string mb') := (HB13.out.bk (b := g11) (t := 55) (cs := #[.int .i64 mk, .string ma, .string mb', .int .i64 mn, .int .i64 mq]) (by simp)).cell 2
          have b_3 : u13.cell? ⟨g11, 3, none⟩ = some (.int .i64 mn) := (HB13.out.bk (b := g11) (t := 55) (cs := #[.int .i64 mk, .string ma, .string mb', .int .i64 mn, .int .i64 mq]) (by simp)).cell 3
          have b_4 : u13.cell? ⟨g11, 4, none⟩ = some (.int .i64 mq) := (HB13.out.bk (b := g11) (t := 55) (cs := #[.int .i64 mk, .string ma, .string mb', .int .i64 mn, .int .i64 mq]) (by simp)).cell 4
          have HEQ := Lib.hid (eqM_same ⟨mk, ma, mb', mn, mq⟩)
          have hb1 : (ob != ob) = false := by simp
          have hb2 : (kn != kn) = false := by simp
          have hb3 : (ov != ov) = false := by simp
          have hw3 : (wh.toList == wh.toList) = true := beq_self_eq_true _
          have hw4 : (wh.toList != wh.toList) = false := by simp
          go_wp2_with (first
            | ((with_reducible refine wpList_nem ?hw (.tmp 113) (.tmp 114) _ rfl ⟨mk, ma, mb', mn, mq⟩ ⟨mk, ma, mb', mn, mq⟩ ?hx ?hy ?_); (case hw => kernel_rfl); (case hx => rfl); (case hy => rfl); rw [HEQ.out])
            | (go_at_call 31; (with_reducible refine (HO1.out _ HB13.out).mono ?_); rintro e u14 ⟨rfl, hv⟩; have HB14 := Lib.hid (HS1.out _ hv); clear hv)
            | (go_at_call 32; (with_reducible refine (HO2.out _ HB14.out).mono ?_); rintro e u15 ⟨rfl, hv⟩; have HB15 := Lib.hid (HS2.out _ hv); clear hv))
          go_roundw
          case rel => exact ⟨i + 1, h1g, h2g, s', st', t', k', n2, by omega, by go_num, Lib.hid ⟨HL8.out.1, HL8.out.2.1⟩, HQ8, Lib.hid ⟨HSK.out, HRQ.out, HRS.out⟩, Lib.hid (HB15.out.less (by intro b hb; simp only [List.mem_cons, List.not_mem_nil, or_false] at hb ⊢; rcases hb with h | h <;> simp [h]))⟩
          case measure => simp [intOf]; omega
        · have HL8 := Lib.hid (show g.length ≤ i + 1 ∧ P.length ≤ i + 1 ∧ P.length ≤ 1000 by have h1 := HGL.out; have h2 := HI.out; omega)
          have hw2 : (xw == 1) = false := beq_eq_false_iff_ne.2 hw1
          have d0 : wn.cell? ⟨gb, 0, none⟩ = some (.int .i64 xw) := (HVN.out.bk (b := gb) (t := 57) (cs := #[.int .i64 xw, .int .i64 xk, .string xa, .string xb, .int .i64 xn, .int .i64 xm, .int .i64 xo, .string xs]) (by simp)).cell 0
          have d1 : wn.cell? ⟨gb, 1, none⟩ = some (.int .i64 xk) := (HVN.out.bk (b := gb) (t := 57) (cs := #[.int .i64 xw, .int .i64 xk, .string xa, .string xb, .int .i64 xn, .int .i64 xm, .int .i64 xo, .string xs]) (by simp)).cell 1
          have d2 : wn.cell? ⟨gb, 2, none⟩ = some (.string xa) := (HVN.out.bk (b := gb) (t := 57) (cs := #[.int .i64 xw, .int .i64 xk, .string xa, .string xb, .int .i64 xn, .int .i64 xm, .int .i64 xo, .string xs]) (by simp)).cell 2
          have d3 : wn.cell? ⟨gb, 3, none⟩ = some (.string xb) := (HVN.out.bk (b := gb) (t := 57) (cs := #[.int .i64 xw, .int .i64 xk, .string xa, .string xb, .int .i64 xn, .int .i64 xm, .int .i64 xo, .string xs]) (by simp)).cell 3
          have d4 : wn.cell? ⟨gb, 4, none⟩ = some (.int .i64 xn) := (HVN.out.bk (b := gb) (t := 57) (cs := #[.int .i64 xw, .int .i64 xk, .string xa, .string xb, .int .i64 xn, .int .i64 xm, .int .i64 xo, .string xs]) (by simp)).cell 4
          have d5 : wn.cell? ⟨gb, 5, none⟩ = some (.int .i64 xm) := (HVN.out.bk (b := gb) (t := 57) (cs := #[.int .i64 xw, .int .i64 xk, .string xa, .string xb, .int .i64 xn, .int .i64 xm, .int .i64 xo, .string xs]) (by simp)).cell 5
          have d6 : wn.cell? ⟨gb, 6, none⟩ = some (.int .i64 xo) := (HVN.out.bk (b := gb) (t := 57) (cs := #[.int .i64 xw, .int .i64 xk, .string xa, .string xb, .int .i64 xn, .int .i64 xm, .int .i64 xo, .string xs]) (by simp)).cell 6
          have d7 : wn.cell? ⟨gb, 7, none⟩ = some (.string xs) := (HVN.out.bk (b := gb) (t := 57) (cs := #[.int .i64 xw, .int .i64 xk, .string xa, .string xb, .int .i64 xn, .int .i64 xm, .int .i64 xo, .string xs]) (by simp)).cell 7
          go_upto_region 19 with fail
          clear d0 d1 d2 d3 d4 d5 d6 d7
          have d0 : wn.cell? ⟨gb, 0, none⟩ = some (.int .i64 xw) := (HVN.out.bk (b := gb) (t := 57) (cs := #[.int .i64 xw, .int .i64 xk, .string xa, .string xb, .int .i64 xn, .int .i64 xm, .int .i64 xo, .string xs]) (by simp)).cell 0
          have d1 : wn.cell? ⟨gb, 1, none⟩ = some (.int .i64 xk) := (HVN.out.bk (b := gb) (t := 57) (cs := #[.int .i64 xw, .int .i64 xk, .string xa, .string xb, .int .i64 xn, .int .i64 xm, .int .i64 xo, .string xs]) (by simp)).cell 1
          have d2 : wn.cell? ⟨gb, 2, none⟩ = some (.string xa) := (HVN.out.bk (b := gb) (t := 57) (cs := #[.int .i64 xw, .int .i64 xk, .string xa, .string xb, .int .i64 xn, .int .i64 xm, .int .i64 xo, .string xs]) (by simp)).cell 2
          have d3 : wn.cell? ⟨gb, 3, none⟩ = some (.string xb) := (HVN.out.bk (b := gb) (t := 57) (cs := #[.int .i64 xw, .int .i64 xk, .string xa, .string xb, .int .i64 xn, .int .i64 xm, .int .i64 xo, .string xs]) (by simp)).cell 3
          have d4 : wn.cell? ⟨gb, 4, none⟩ = some (.int .i64 xn) := (HVN.out.bk (b := gb) (t := 57) (cs := #[.int .i64 xw, .int .i64 xk, .string xa, .string xb, .int .i64 xn, .int .i64 xm, .int .i64 xo, .string xs]) (by simp)).cell 4
          have d5 : wn.cell? ⟨gb, 5, none⟩ = some (.int .i64 xm) := (HVN.out.bk (b := gb) (t := 57) (cs := #[.int .i64 xw, .int .i64 xk, .string xa, .string xb, .int .i64 xn, .int .i64 xm, .int .i64 xo, .string xs]) (by simp)).cell 5
          have d6 : wn.cell? ⟨gb, 6, none⟩ = some (.int .i64 xo) := (HVN.out.bk (b := gb) (t := 57) (cs := #[.int .i64 xw, .int .i64 xk, .string xa, .string xb, .int .i64 xn, .int .i64 xm, .int .i64 xo, .string xs]) (by simp)).cell 6
          have d7 : wn.cell? ⟨gb, 7, none⟩ = some (.string xs) := (HVN.out.bk (b := gb) (t := 57) (cs := #[.int .i64 xw, .int .i64 xk, .string xa, .string xb, .int .i64 xn, .int .i64 xm, .int .i64 xo, .string xs]) (by simp)).cell 7
          obtain ⟨hsk, hrq, hrs⟩ := HST.out
          have HA := Lib.hid (show Pl ub wb mb rb xr g P [(sb, 114, shc v s), (qb, 116, #[.pointer (some ⟨rb, 0, none⟩), .int .i64 st, .string t, .string k, .string n']), (gb, 57, #[.int .i64 xw, .int .i64 xk, .string xa, .string xb, .int .i64 xn, .int .i64 xm, .int .i64 xo, .string xs])] wn from HVN.out.less (by intro b hb; simp only [List.mem_cons, List.not_mem_nil, or_false] at hb ⊢; rcases hb with h | h | h <;> simp [h]))
          have hskb : skB (hsS (ckF tn g) s ⟨xk, xa, xb, xn, xm⟩ xo xs) := by obtain ⟨cg, hcg, hce⟩ := HCF2.out; rw [hce]; exact hs_b hcg g s ⟨xk, xa, xb, xn, xm⟩ xo xs hsk
          have HH1 := Lib.hid (fun u (hu : Pl ub wb mb rb xr g P [(sb, 114, shc v s), (qb, 116, #[.pointer (some ⟨rb, 0, none⟩), .int .i64 st, .string t, .string k, .string n']), (gb, 57, #[.int .i64 xw, .int .i64 xk, .string xa, .string xb, .int .i64 xn, .int .i64 xm, .int .i64 xo, .string xs])] u) => pl_hear HPB.out HCF2.out HG.out hu HSBL.out (by intro y hy; have h1 := HGB.out; have h2 := HNE.out; simp only [List.mem_cons, List.not_mem_nil, or_false] at hy; rcases hy with rfl | rfl <;> (show _ ≠ sb; omega)) hsk ⟨xk, xa, xb, xn, xm⟩ xo xs (show xa.size ≤ 1099511627776 by have := HZS.out; omega) (show xb.size ≤ 140737488355328 by have := HZS.out; omega))
          have HH2 := Lib.hid (fun (L : List (Nat × TypeId × Array Value)) (hL : ∀ y ∈ L, y.1 ≠ qb) u (hu : Pl ub wb mb rb xr g P ((qb, 116, #[.pointer (some ⟨rb, 0, none⟩), .int .i64 st, .string t, .string k, .string n']) :: L) u) => pl_rhear HPB.out HSE2.out HQ.out HL8.out.2.2 hu HQBL.out hL hrq hrs ⟨xk, xa, xb, xn, xm⟩ xo xs (show xa.size ≤ 140737488355328 by have := HZS.out; omega) (show xb.size ≤ 140737488355328 by have := HZS.out; omega))
          obtain ⟨s', hs'⟩ : ∃ s', hsS (ckF tn g) s ⟨xk, xa, xb, xn, xm⟩ xo xs = s' := ⟨_, rfl⟩
          obtain ⟨mm, hmm⟩ : ∃ mm, hsM (ckF tn g) s ⟨xk, xa, xb, xn, xm⟩ xo xs = mm := ⟨_, rfl⟩
          obtain ⟨ob, hob⟩ : ∃ ob, (!ovS s) = ob := ⟨_, rfl⟩
          rw [hs'] at hskb
          simp only [hs', hmm, hob] at HH1 HH2
          obtain ⟨mk, ma, mb', mn, mq⟩ := mm
          have HSK := Lib.hid hskb
          clear hs' hmm hob hskb hsk hrq hrs HST HVN
          go_upto_region 20 with (go_at_call 27; (with_reducible refine (HH1.out _ HA.out).mono ?_); rintro e u10 ⟨rfl, hv⟩; have HB10 := Lib.hid hv; clear hv HA d0 d1 d2 d3 d4 d5 d6 d7)
          have HC10 := Lib.hid (HB10.out.new 55 #[.int .i64 mk, .string ma, .string mb', .int .i64 mn, .int .i64 mq])
          have HM1 := Lib.hid (show sb < u10.heap.size ∧ qb < u10.heap.size ∧ gb < u10.heap.size from ⟨HB10.out.head.lt, (HB10.out.bk (b := qb) (t := 116) (cs := #[.pointer (some ⟨rb, 0, none⟩), .int .i64 st, .string t, .string k, .string n']) (by simp)).lt, (HB10.out.bk (b := gb) (t := 57) (cs := #[.int .i64 xw, .int .i64 xk, .string xa, .string xb, .int .i64 xn, .int .i64 xm, .int .i64 xo, .string xs]) (by simp)).lt⟩)
          obtain ⟨y10, hy⟩ : ∃ y, u10.alloc (.cells #[.int .i64 mk, .string ma, .string mb', .int .i64 mn, .int .i64 mq] 55) = y := ⟨_, rfl⟩
          obtain ⟨g10, hg⟩ : ∃ g, u10.heap.size = g := ⟨_, rfl⟩
          rw [hy, hg] at HC10
          rw [hg] at HM1
          rw [hy] ; rw [hg]
          clear hy hg HB10 HH1
          have HD10 := Lib.hid (show Pl ub wb mb rb xr g P ((qb, 116, #[.pointer (some ⟨rb, 0, none⟩), .int .i64 st, .string t, .string k, .string n']) :: [(g10, 55, #[.int .i64 mk, .string ma, .string mb', .int .i64 mn, .int .i64 mq]), (sb, 114, shc v s'), (gb, 57, #[.int .i64 xw, .int .i64 xk, .string xa, .string xb, .int .i64 xn, .int .i64 xm, .int .i64 xo, .string xs])]) y10 from HC10.out.less (by intro b hb; simp only [List.mem_cons, List.not_mem_nil, or_false] at hb ⊢; rcases hb with h | h | h | h <;> simp [h]))
          have HLN := Lib.hid (show ∀ y ∈ ([(g10, 55, #[.int .i64 mk, .string ma, .string mb', .int .i64 mn, .int .i64 mq]), (sb, 114, shc v s'), (gb, 57, #[.int .i64 xw, .int .i64 xk, .string xa, .string xb, .int .i64 xn, .int .i64 xm, .int .i64 xo, .string xs])] : List (Nat × TypeId × Array Value)), y.1 ≠ qb from by intro y hy; have h1 := HGB.out; have h2 := HNE.out; have h3 := HM1.out; simp only [List.mem_cons, List.not_mem_nil, or_false] at hy; rcases hy with rfl | rfl | rfl <;> (show _ ≠ qb; omega))
          clear HC10
          have d0 : y10.cell? ⟨gb, 0, none⟩ = some (.int .i64 xw) := (HD10.out.bk (b := gb) (t := 57) (cs := #[.int .i64 xw, .int .i64 xk, .string xa, .string xb, .int .i64 xn, .int .i64 xm, .int .i64 xo, .string xs]) (by simp)).cell 0
          have d1 : y10.cell? ⟨gb, 1, none⟩ = some (.int .i64 xk) := (HD10.out.bk (b := gb) (t := 57) (cs := #[.int .i64 xw, .int .i64 xk, .string xa, .string xb, .int .i64 xn, .int .i64 xm, .int .i64 xo, .string xs]) (by simp)).cell 1
          have d2 : y10.cell? ⟨gb, 2, none⟩ = some (.string xa) := (HD10.out.bk (b := gb) (t := 57) (cs := #[.int .i64 xw, .int .i64 xk, .string xa, .string xb, .int .i64 xn, .int .i64 xm, .int .i64 xo, .string xs]) (by simp)).cell 2
          have d3 : y10.cell? ⟨gb, 3, none⟩ = some (.string xb) := (HD10.out.bk (b := gb) (t := 57) (cs := #[.int .i64 xw, .int .i64 xk, .string xa, .string xb, .int .i64 xn, .int .i64 xm, .int .i64 xo, .string xs]) (by simp)).cell 3
          have d4 : y10.cell? ⟨gb, 4, none⟩ = some (.int .i64 xn) := (HD10.out.bk (b := gb) (t := 57) (cs := #[.int .i64 xw, .int .i64 xk, .string xa, .string xb, .int .i64 xn, .int .i64 xm, .int .i64 xo, .string xs]) (by simp)).cell 4
          have d5 : y10.cell? ⟨gb, 5, none⟩ = some (.int .i64 xm) := (HD10.out.bk (b := gb) (t := 57) (cs := #[.int .i64 xw, .int .i64 xk, .string xa, .string xb, .int .i64 xn, .int .i64 xm, .int .i64 xo, .string xs]) (by simp)).cell 5
          have d6 : y10.cell? ⟨gb, 6, none⟩ = some (.int .i64 xo) := (HD10.out.bk (b := gb) (t := 57) (cs := #[.int .i64 xw, .int .i64 xk, .string xa, .string xb, .int .i64 xn, .int .i64 xm, .int .i64 xo, .string xs]) (by simp)).cell 6
          have d7 : y10.cell? ⟨gb, 7, none⟩ = some (.string xs) := (HD10.out.bk (b := gb) (t := 57) (cs := #[.int .i64 xw, .int .i64 xk, .string xa, .string xb, .int .i64 xn, .int .i64 xm, .int .i64 xo, .string xs]) (by simp)).cell 7
          go_upto_region 21 with (go_at_call 28; (with_reducible refine (HH2.out _ HLN.out _ HD10.out).mono ?_); rintro e u11 ⟨rfl, st', t', k', n2, hv, hrq, hrs⟩; have HB11 := Lib.hid hv; have HRQ := Lib.hid hrq; have HRS := Lib.hid hrs; clear hv hrq hrs HD10 d0 d1 d2 d3 d4 d5 d6 d7)
          have HC11 := Lib.hid (HB11.out.new 55 #[.int .i64 mk, .string ma, .string mb', .int .i64 mn, .int .i64 mq])
          obtain ⟨y11, hy⟩ : ∃ y, u11.alloc (.cells #[.int .i64 mk, .string ma, .string mb', .int .i64 mn, .int .i64 mq] 55) = y := ⟨_, rfl⟩
          obtain ⟨g11, hg⟩ : ∃ g, u11.heap.size = g := ⟨_, rfl⟩
          rw [hy, hg] at HC11
          rw [hy] ; rw [hg]
          clear hy hg HB11 HH2 HLN
          have HE11 := Lib.hid (show Pl ub wb mb rb xr g P ((sb, 114, shc v s') :: [(qb, 116, #[.pointer (some ⟨rb, 0, none⟩), .int .i64 st', .string t', .string k', .string n2]), (g11, 55, #[.int .i64 mk, .string ma, .string mb', .int .i64 mn, .int .i64 mq]), (g10, 55, #[.int .i64 mk, .string ma, .string mb', .int .i64 mn, .int .i64 mq])]) y11 from HC11.out.less (by intro b hb; simp only [List.mem_cons, List.not_mem_nil, or_false] at hb ⊢; rcases hb with h | h | h | h <;> simp [h]))
          clear HC11
          have HW1 := Lib.hid (fun u (hu : Pl ub wb mb rb xr g P ((sb, 114, shc v s') :: [(qb, 116, #[.pointer (some ⟨rb, 0, none⟩), .int .i64 st', .string t', .string k', .string n2]), (g11, 55, #[.int .i64 mk, .string ma, .string mb', .int .i64 mn, .int .i64 mq]), (g10, 55, #[.int .i64 mk, .string ma, .string mb', .int .i64 mn, .int .i64 mq])]) u) => pl_who hu HSK.out)
          have HW2 := Lib.hid (fun u (hu : Pl ub wb mb rb xr g P ((qb, 116, #[.pointer (some ⟨rb, 0, none⟩), .int .i64 st', .string t', .string k', .string n2]) :: [(sb, 114, shc v s'), (g11, 55, #[.int .i64 mk, .string ma, .string mb', .int .i64 mn, .int .i64 mq]), (g10, 55, #[.int .i64 mk, .string ma, .string mb', .int .i64 mn, .int .i64 mq])]) u) => pl_rwho hu HRQ.out)
          have HO1 := Lib.hid (fun u (hu : Pl ub wb mb rb xr g P ((sb, 114, shc v s') :: [(qb, 116, #[.pointer (some ⟨rb, 0, none⟩), .int .i64 st', .string t', .string k', .string n2]), (g11, 55, #[.int .i64 mk, .string ma, .string mb', .int .i64 mn, .int .i64 mq]), (g10, 55, #[.int .i64 mk, .string ma, .string mb', .int .i64 mn, .int .i64 mq])]) u) => pl_over hu)
          have HO2 := Lib.hid (fun u (hu : Pl ub wb mb rb xr g P ((qb, 116, #[.pointer (some ⟨rb, 0, none⟩), .int .i64 st', .string t', .string k', .string n2]) :: [(sb, 114, shc v s'), (g11, 55, #[.int .i64 mk, .string ma, .string mb', .int .i64 mn, .int .i64 mq]), (g10, 55, #[.int .i64 mk, .string ma, .string mb', .int .i64 mn, .int .i64 mq])]) u) => pl_rover hu HRQ.out)
          obtain ⟨wh, hwh⟩ : ∃ z, whS s' = z := ⟨_, rfl⟩
          obtain ⟨kn, hkn⟩ : ∃ z, knS s' = z := ⟨_, rfl⟩
          obtain ⟨ov, hov⟩ : ∃ z, ovS s' = z := ⟨_, rfl⟩
          simp only [hwh, hkn] at HW1 HW2
          simp only [hov] at HO1 HO2
          clear hwh hkn hov
          have HS1 := Lib.hid (fun u (hu : Pl ub wb mb rb xr g P ((sb, 114, shc v s') :: [(qb, 116, #[.pointer (some ⟨rb, 0, none⟩), .int .i64 st', .string t', .string k', .string n2]), (g11, 55, #[.int .i64 mk, .string ma, .string mb', .int .i64 mn, .int .i64 mq]), (g10, 55, #[.int .i64 mk, .string ma, .string mb', .int .i64 mn, .int .i64 mq])]) u) => (show Pl ub wb mb rb xr g P ((qb, 116, #[.pointer (some ⟨rb, 0, none⟩), .int .i64 st', .string t', .string k', .string n2]) :: [(sb, 114, shc v s'), (g11, 55, #[.int .i64 mk, .string ma, .string mb', .int .i64 mn, .int .i64 mq]), (g10, 55, #[.int .i64 mk, .string ma, .string mb', .int .i64 mn, .int .i64 mq])]) u from hu.less (by intro b hb; simp only [List.mem_cons, List.not_mem_nil, or_false] at hb ⊢; rcases hb with h | h | h | h <;> simp [h])))
          have HS2 := Lib.hid (fun u (hu : Pl ub wb mb rb xr g P ((qb, 116, #[.pointer (some ⟨rb, 0, none⟩), .int .i64 st', .string t', .string k', .string n2]) :: [(sb, 114, shc v s'), (g11, 55, #[.int .i64 mk, .string ma, .string mb', .int .i64 mn, .int .i64 mq]), (g10, 55, #[.int .i64 mk, .string ma, .string mb', .int .i64 mn, .int .i64 mq])]) u) => (show Pl ub wb mb rb xr g P ((sb, 114, shc v s') :: [(qb, 116, #[.pointer (some ⟨rb, 0, none⟩), .int .i64 st', .string t', .string k', .string n2]), (g11, 55, #[.int .i64 mk, .string ma, .string mb', .int .i64 mn, .int .i64 mq]), (g10, 55, #[.int .i64 mk, .string ma, .string mb', .int .i64 mn, .int .i64 mq])]) u from hu.less (by intro b hb; simp only [List.mem_cons, List.not_mem_nil, or_false] at hb ⊢; rcases hb with h | h | h | h <;> simp [h])))
          go_upto_region 22 with (go_at_call 29; (with_reducible refine (HW1.out _ HE11.out).mono ?_); rintro e u12 ⟨rfl, hv⟩; have HB12 := Lib.hid (HS1.out _ hv); clear hv HE11)
          go_upto_region 23 with (go_at_call 30; (with_reducible refine (HW2.out _ HB12.out).mono ?_); rintro e u13 ⟨rfl, hv⟩; have HB13 := Lib.hid (HS2.out _ hv); clear hv HB12)
          have a_0 : u13.cell? ⟨g10, 0, none⟩ = some (.int .i64 mk) := (HB13.out.bk (b := g10) (t := 55) (cs := #[.int .i64 mk, .string ma, .string mb', .int .i64 mn, .int .i64 mq]) (by simp)).cell 0
          have a_1 : u13.cell? ⟨g10, 1, none⟩ = some (.string ma) := (HB13.out.bk (b := g10) (t := 55) (cs := #[.int .i64 mk, .string ma, .string mb', .int .i64 mn, .int .i64 mq]) (by simp)).cell 1
          have a_2 : u13.cell? ⟨g10, 2, none⟩ = some (.string mb') := (HB13.out.bk (b := g10) (t := 55) (cs := #[.int .i64 mk, .string ma, .string mb', .int .i64 mn, .int .i64 mq]) (by simp)).cell 2
          have a_3 : u13.cell? ⟨g10, 3, none⟩ = some (.int .i64 mn) := (HB13.out.bk (b := g10) (t := 55) (cs := #[.int .i64 mk, .string ma, .string mb', .int .i64 mn, .int .i64 mq]) (by simp)).cell 3
          have a_4 : u13.cell? ⟨g10, 4, none⟩ = some (.int .i64 mq) := (HB13.out.bk (b := g10) (t := 55) (cs := #[.int .i64 mk, .string ma, .string mb', .int .i64 mn, .int .i64 mq]) (by simp)).cell 4
          have b_0 : u13.cell? ⟨g11, 0, none⟩ = some (.int .i64 mk) := (HB13.out.bk (b := g11) (t := 55) (cs := #[.int .i64 mk, .string ma, .string mb', .int .i64 mn, .int .i64 mq]) (by simp)).cell 0
          have b_1 : u13.cell? ⟨g11, 1, none⟩ = some (.string ma) := (HB13.out.bk (b := g11) (t := 55) (cs := #[.int .i64 mk, .string ma, .string mb', .int .i64 mn, .int .i64 mq]) (by simp)).cell 1
          have b_2 : u13.cell? ⟨g11, 2, none⟩ = some (.string mb') := (HB13.out.bk (b := g11) (t := 55) (cs := #[.int .i64 mk, .string ma, .string mb', .int .i64 mn, .int .i64 mq]) (by simp)).cell 2
          have b_3 : u13.cell? ⟨g11, 3, none⟩ = some (.int .i64 mn) := (HB13.out.bk (b := g11) (t := 55) (cs := #[.int .i64 mk, .string ma, .string mb', .int .i64 mn, .int .i64 mq]) (by simp)).cell 3
          have b_4 : u13.cell? ⟨g11, 4, none⟩ = some (.int .i64 mq) := (HB13.out.bk (b := g11) (t := 55) (cs := #[.int .i64 mk, .string ma, .string mb', .int .i64 mn, .int .i64 mq]) (by simp)).cell 4
          have HEQ := Lib.hid (eqM_same ⟨mk, ma, mb', mn, mq⟩)
          have hb1 : (ob != ob) = false := by simp
          have hb2 : (kn != kn) = false := by simp
          have hb3 : (ov != ov) = false := by simp
          have hw3 : (wh.toList == wh.toList) = true := beq_self_eq_true _
          have hw4 : (wh.toList != wh.toList) = false := by simp
          go_wp2_with (first
            | ((with_reducible refine wpList_nem ?hw (.tmp 113) (.tmp 114) _ rfl ⟨mk, ma, mb', mn, mq⟩ ⟨mk, ma, mb', mn, mq⟩ ?hx ?hy ?_); (case hw => kernel_rfl); (case hx => rfl); (case hy => rfl); rw [HEQ.out])
            | (go_at_call 31; (with_reducible refine (HO1.out _ HB13.out).mono ?_); rintro e u14 ⟨rfl, hv⟩; have HB14 := Lib.hid (HS1.out _ hv); clear hv)
            | (go_at_call 32; (with_reducible refine (HO2.out _ HB14.out).mono ?_); rintro e u15 ⟨rfl, hv⟩; have HB15 := Lib.hid (HS2.out _ hv); clear hv))
          go_roundw
          case rel => exact ⟨i + 1, g, P, s', st', t', k', n2, by omega, by go_num, Lib.hid ⟨HL8.out.1, HL8.out.2.1⟩, HQ, Lib.hid ⟨HSK.out, HRQ.out, HRS.out⟩, Lib.hid (HB15.out.less (by intro b hb; simp only [List.mem_cons, List.not_mem_nil, or_false] at hb ⊢; rcases hb with h | h <;> simp [h]))⟩
          case measure => simp [intOf]; omega
      · have hi2 : ¬ (i : Int) < (nl : Int) := by omega
        go_wp2
        go_ret
        exact ⟨rfl, HPB.out.low HV.out⟩
end Go.Proofs.YtekobdmlgbffnaaGreatDoor
