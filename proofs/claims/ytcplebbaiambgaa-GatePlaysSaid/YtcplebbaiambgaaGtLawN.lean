/- GateNets: the walk. (Written by gen_gtnets.py.) -/
import Derived.Test.YtcplebbaiambgaaG9
import Derived.BigQuiet
import Derived.Deep.QuietTactic
namespace Go.Proofs.Ytcplebbaiambgaa
set_option linter.unusedVariables false
set_option maxRecDepth 100000
set_option linter.unusedSimpArgs false
open Go.RowKit

theorem in_div {n a : Nat} {b : Nat} (hr : rightB n (b : Int) = true) : inB n (b : Int) a = decide (a / 2 ^ (32 - b) = n / 2 ^ (32 - b)) := by
  have h := hr
  unfold rightB at h
  simp only [Bool.and_eq_true, decide_eq_true_eq, Int.toNat_natCast] at h
  unfold inB
  rw [hr, Bool.true_and]
  apply decide_eq_decide.2
  rw [Int.toNat_natCast]
  conv => lhs; rhs; rw [← h.2]
  exact first_eq b a n
theorem in_every {n a : Nat} (hr : rightB n ((0 : Nat) : Int) = true) (hn : n < 4294967296) (ha : a < 4294967296) : inB n ((0 : Nat) : Int) a = true := by
  have h := in_div (b := 0) (a := a) hr
  have e : (2 : Nat) ^ (32 - 0) = 4294967296 := by decide
  rw [e, Nat.div_eq_of_lt ha, Nat.div_eq_of_lt hn] at h
  exact h
theorem div_eq (a b d : Nat) : (((a : Int) / 2 ^ d) == ((b : Int) / 2 ^ d)) = decide (a / 2 ^ d = b / 2 ^ d) := by
  rw [Bool.eq_iff_iff, beq_iff_eq, decide_eq_true_eq]
  have e : ((2 : Int) ^ d) = ((2 ^ d : Nat) : Int) := by simp
  rw [e]
  constructor
  · intro h; exact_mod_cast h
  · intro h; exact_mod_cast h
theorem Below.drawn (u : World) (n : Nat) : Below u.heap.size u (u.drewN n) := (Ke.drawn [] u n).below (Nat.le_refl _) (fun x hx => by cases hx)
/-- What Find tells of nets. -/
theorem find_net {ts : List Tv} {tn : List Tn} (hT : ∀ s, (fT s ts).map (·.t) = gtF tn s) (hte : ∀ t ∈ tn, tenB t = true) (s : ByteArray) (a : Nat) :
    ((fT s ts).getD zeroTv).t.nets.length ≤ 4 ∧ (∀ n ∈ ((fT s ts).getD zeroTv).t.nets, rightB n.addr n.bits = true) ∧ adI (gtF tn s) a = if (fT s ts).isSome = false then 3 else if (decide (((fT s ts).getD zeroTv).t.nets = []) || netsB ((fT s ts).getD zeroTv).t.nets a) = true then 0 else 111 := by
  have h := hT s
  cases hq : fT s ts with
  | none =>
    rw [hq] at h
    rw [← h]
    exact ⟨by decide, (fun n hn => by cases hn), rfl⟩
  | some y =>
    rw [hq] at h
    rw [← h]
    have h1 := hte y.t (gtF_name h.symm).2
    obtain ⟨_, _, h2, h3, _⟩ := tenB_parts h1
    refine ⟨h2, h3, ?_⟩
    simp only [Option.isSome_some, Option.getD_some]
    rw [if_neg (by decide)]
    show adI (some y.t) a = _
    unfold adI
    simp only [Bool.or_eq_true, decide_eq_true_eq]
theorem nets_take (l : List Nt) (i a : Nat) (x : Nt) (h : l[i]? = some x) : netsB (l.take (i + 1)) a = (netsB (l.take i) a || inB x.addr x.bits a) := by
  unfold netsB
  rw [List.take_add_one, h, List.any_append]
  simp

set_option maxRecDepth 100000 in
set_option maxHeartbeats 16000000 in
theorem walk_GateNets (x : Cv) (s : ByteArray) (a : Nat) (w : World) (h : InCf w x) (hs : s.size ≤ 140737488355328) (ha : a < 4294967296) :
    Calls Try.prog 6 #[.agg (ccs x), .string s, .int .u32 (a : Int)] w fun e w' => e = .returned (.bool true) ∧ Below w.heap.size w w' := by
  have HGR := Lib.hid (fun u (hu : Below w.heap.size w u) => great_ok x u (h.onG hu))
  have HN0 := Lib.hid (fun (hc : cfgB x.cg = false) => gnew_no h.rc hc)
  have HN1 := Lib.hid (fun (hc : cfgB x.cg = true) => gnew_yes h.rc hc)
  have HRT := Lib.hid h.rc.r
  have HMX := Lib.hid h.rc.f.max
  have HCP := Lib.hid h.rc.f.cap
  have HTE := Lib.hid (fun (hc : cfgB x.cg = true) => (cfgB_parts hc).2.2.2.2.2.2)
  have HTN := Lib.hid (show ∀ s, (fT s x.ts).map (·.t) = gtF x.cg.tens s from fun s => gtF_tens s x.ts)
  obtain ⟨C, hC⟩ : ∃ C, cfgB x.cg = C := ⟨_, rfl⟩
  simp only [hC] at HN0 HN1 HTE
  obtain ⟨tn, htn⟩ : ∃ tn, x.cg.tens = tn := ⟨_, rfl⟩
  rw [htn] at HN1 HTE HTN
  obtain ⟨a0, a1, a2, a3, ts, A, c⟩ := x
  obtain ⟨n, hn⟩ : ∃ n, ts.length = n := ⟨_, rfl⟩
  have HN := Lib.hid hn
  dsimp only at HRT HMX HCP HTN
  simp only [ccs, hn] at HGR HN0 HN1 ⊢
  have HX := Lib.hid (show Bx w w.heap.size 24 #[.int .i64 a0, .int .i64 a1, .int .i64 a2, .int .i64 a3, .slice A n c] (w.alloc (.cells #[.int .i64 a0, .int .i64 a1, .int .i64 a2, .int .i64 a3, .slice A n c] 24)) from Bx.new w _ _)
  clear h hn hC htn
  go_enter Try.func6, Try.ntmps6
  go_upto_region 2 with (go_at_call 9; refine (ghead_ok _).mono ?_; rintro e u1 ⟨rfl, hb⟩; have HX1 := Lib.hid (HX.out.on hb); clear hb)
  obtain ⟨g0, hg0⟩ : ∃ g, w.heap.size = g := ⟨_, rfl⟩
  have HG0 := Lib.hid hg0
  rw [hg0] at HX1 ⊢
  clear hg0
  have e0 : u1.cell? ⟨g0, 0, none⟩ = some (.int .i64 a0) := HX1.out.b.cell 0
  have e1 : u1.cell? ⟨g0, 1, none⟩ = some (.int .i64 a1) := HX1.out.b.cell 1
  have e2 : u1.cell? ⟨g0, 2, none⟩ = some (.int .i64 a2) := HX1.out.b.cell 2
  have e3 : u1.cell? ⟨g0, 3, none⟩ = some (.int .i64 a3) := HX1.out.b.cell 3
  have e4 : u1.cell? ⟨g0, 4, none⟩ = some (.slice A n c) := HX1.out.b.cell 4
  cases C with
  | false =>
    go_wp2_with (go_at_call 12; (with_reducible refine (HN0.out (by first | rfl | trivial) _ HX1.out.l).mono ?_); rintro e u2 ⟨rfl, hb⟩; have HX2 := Lib.hid (HX1.out.on hb); clear hb)
    go_ret
    exact ⟨rfl, HX2.out.l⟩
  | true =>
    have HL0 := Lib.hid (show Lg w tn [] [(g0, 24, #[.int .i64 a0, .int .i64 a1, .int .i64 a2, .int .i64 a3, .slice A n c])] u1 from ⟨(fun G hG => by cases hG), .nil, (fun b hb => by obtain rfl := List.mem_singleton.1 hb; exact ⟨HX1.out.b, gcfg_ne⟩), HX1.out.l⟩)
    go_upto_region 3 with (go_at_call 12; (with_reducible refine (HN1.out (by first | rfl | trivial) _ _ _ HL0.out).mono ?_); rintro e u2 ⟨g, mb, lo, hi, gs, rfl, hv⟩; have HV2 := Lib.hid hv; clear hv)
    clear e0 e1 e2 e3 e4
    have e0 : u2.cell? ⟨g0, 0, none⟩ = some (.int .i64 a0) := HV2.out.head.cell 0
    have e1 : u2.cell? ⟨g0, 1, none⟩ = some (.int .i64 a1) := HV2.out.head.cell 1
    have e2 : u2.cell? ⟨g0, 2, none⟩ = some (.int .i64 a2) := HV2.out.head.cell 2
    have e3 : u2.cell? ⟨g0, 3, none⟩ = some (.int .i64 a3) := HV2.out.head.cell 3
    have e4 : u2.cell? ⟨g0, 4, none⟩ = some (.slice A n c) := HV2.out.head.cell 4
    by_cases hm1 : s.size ≤ 1000
    · have hm2 : decide ((1000 : Int) < (s.size : Int)) = false := decide_eq_false (by omega)
      have HFI := Lib.hid (fun u (hu : Below w.heap.size w u) => rfind_ok (.int .i64 a0) (.int .i64 a1) (.int .i64 a2) (.int .i64 a3) A ts n c s u (HRT.out.on hu) HN.out (by have h1 := HMX.out; have h2 := HCP.out; rw [HN.out] at h2; omega))
      have HFN := Lib.hid (find_net HTN.out (HTE.out (by first | rfl | trivial)) s a)
      have HRY := Lib.hid (show RT1 w ((fT s ts).getD zeroTv) by
        cases hq : fT s ts with
        | none => exact RT1.zero w
        | some y => exact HRT.out.each y (fT_mem hq).1)
      obtain ⟨⟨⟨yn, ya, yb, ynl, ykl⟩, yAn, c2, yAk, yck⟩, hy⟩ : ∃ y, (fT s ts).getD zeroTv = y := ⟨_, rfl⟩
      obtain ⟨is, his⟩ : ∃ is, (fT s ts).isSome = is := ⟨_, rfl⟩
      obtain ⟨F, hF⟩ : ∃ F, gtF tn s = F := ⟨_, rfl⟩
      rw [hy, his] at HFI
      rw [hy, his, hF] at HFN
      rw [hy] at HRY
      dsimp only at HFN
      obtain ⟨nl, hnl⟩ : ∃ nl, ynl.length = nl := ⟨_, rfl⟩
      have HNL := Lib.hid hnl
      obtain ⟨f1, f2, f3⟩ := HFN.out
      rw [hnl] at f1
      have HRI := Lib.hid f2
      have HAD := Lib.hid f3
      simp only [tcs, hnl] at HFI
      have HIM := Lib.hid (show is = false → ynl = [] from fun hi => by
        cases hq : fT s ts with
        | none =>
          rw [hq] at hy
          have : ynl = (⟨⟨yn, ya, yb, ynl, ykl⟩, yAn, c2, yAk, yck⟩ : Tv).t.nets := rfl
          rw [this, ← hy]; rfl
        | some y => rw [hq] at his; rw [← his] at hi; cases hi)
      have HAM := Lib.hid (show ∀ u L, Lg w tn [⟨g, mb, lo, hi, gs, U0⟩] L u → Calls Try.prog 16 #[.pointer (some ⟨g, 0, none⟩), .string s, .int .u32 (a : Int)] u fun e u' => e = .returned (.int .i64 (adI F a)) ∧ Lg w tn [⟨g, mb, lo, hi, gs, U0⟩] L u' from fun u L hu => by have := lg_admit hu s a (by omega) ha; rwa [hF] at this)
      rw [HAD.out] at HAM
      clear hy his hF hnl f2 f3 HFN HN0 HN1 HTE HTN HAD
      go_upto_region 6 with (first
        | (go_at_call 10; (with_reducible refine (HGR.out _ HV2.out.l).mono ?_); rintro e u3 ⟨gr, rfl, _, hb⟩; have HV3 := Lib.hid (HV2.out.on hb); clear hb; clear e0 e1 e2 e3 e4; have e0 : u3.cell? ⟨g0, 0, none⟩ = some (.int .i64 a0) := HV3.out.head.cell 0; have e1 : u3.cell? ⟨g0, 1, none⟩ = some (.int .i64 a1) := HV3.out.head.cell 1; have e2 : u3.cell? ⟨g0, 2, none⟩ = some (.int .i64 a2) := HV3.out.head.cell 2; have e3 : u3.cell? ⟨g0, 3, none⟩ = some (.int .i64 a3) := HV3.out.head.cell 3; have e4 : u3.cell? ⟨g0, 4, none⟩ = some (.slice A n c) := HV3.out.head.cell 4; cases gr)
        | (go_at_call 22; (with_reducible refine (HFI.out _ HV3.out.l).mono ?_); rintro e u4 ⟨rfl, hb⟩; have HV4 := Lib.hid ((HV3.out.on hb).new 45 #[.string yn, .int .i64 ya, .int .i64 yb, .slice yAn nl c2, .slice yAk ykl.length yck] (by decide)); clear hb))
      any_goals (go_ret; exact ⟨rfl, HV3.out.l⟩)
      clear e0 e1 e2 e3 e4
      obtain ⟨wb, hwb⟩ : ∃ wb, u4.alloc (.cells #[.string yn, .int .i64 ya, .int .i64 yb, .slice yAn nl c2, .slice yAk ykl.length yck] 45) = wb := ⟨_, rfl⟩
      obtain ⟨gb, hgb⟩ : ∃ gb, u4.heap.size = gb := ⟨_, rfl⟩
      rw [hwb] at HV4 ⊢
      rw [hgb] at HV4 ⊢
      have t3 : wb.cell? ⟨gb, 3, none⟩ = some (.slice yAn nl c2) := HV4.out.head.cell 3
      clear hwb hgb
      obtain ⟨z, hz⟩ : ∃ z, ((nl : Int) == 0) = z := ⟨_, rfl⟩
      have HZ := Lib.hid (show z = decide (ynl = []) by rw [← hz, Bool.eq_iff_iff, beq_iff_eq, decide_eq_true_eq, ← List.length_eq_zero_iff, HNL.out]; omega)
      go_wp2_with fail
      try rw [hz]
      clear t3 hz
      have HV5 := Lib.hid (HV4.out.less (L' := [(gb, 45, #[.string yn, .int .i64 ya, .int .i64 yb, .slice yAn nl c2, .slice yAk ykl.length yck])]) (fun b hb => by obtain rfl := List.mem_singleton.1 hb; exact List.mem_cons_self ..))
      clear HV4
      go_loopw [11, 12] (fun v11 v12 wr => ∃ (i : Nat) (q : Bool), i ≤ nl ∧ v11 = .bool q ∧ v12 = .int .i64 (i : Int) ∧ Hid (q = (decide (ynl = []) || netsB (ynl.take i) a)) ∧ Hid (Lg w tn [⟨g, mb, lo, hi, gs, U0⟩] [(gb, 45, #[.string yn, .int .i64 ya, .int .i64 yb, .slice yAn nl c2, .slice yAk ykl.length yck])] wr)) (fun _ v12 _ => nl - (intOf v12).toNat)
      case atStart => exact ⟨0, z, by omega, rfl, rfl, Lib.hid (by rw [HZ.out]; simp [netsB]), HV5⟩
      case round =>
        obtain ⟨i, q, hi0, rfl, rfl, HQ, HP⟩ := hrel
        have t3 : wr.cell? ⟨gb, 3, none⟩ = some (.slice yAn nl c2) := HP.out.head.cell 3
        by_cases hi1 : i < nl
        · have hi2 : (i : Int) < (nl : Int) := by omega
          obtain ⟨b, o, x, rfl, hx, hc⟩ := HRY.out.n.at2 i (by dsimp only; rw [HNL.out]; exact hi1)
          dsimp only at hx
          obtain ⟨c0, c1⟩ := hc wr HP.out.l
          have HST := Lib.hid (nets_take ynl i a x hx)
          have HXL := Lib.hid (HRY.out.lt x (List.mem_of_getElem? hx))
          have HXR := Lib.hid (HRI.out x (List.mem_of_getElem? hx))
          obtain ⟨xa, xb⟩ := x
          dsimp only at HST c0 c1 HXL HXR
          have hxb : 0 ≤ xb ∧ xb ≤ 32 := by
            have := HXR.out
            unfold rightB at this
            simp only [Bool.and_eq_true, decide_eq_true_eq] at this
            exact this.1
          obtain ⟨k, rfl⟩ := Int.eq_ofNat_of_zero_le hxb.1
          have hk32 : k ≤ 32 := by omega
          clear hc hx hxb
          go_upto_region 11 with fail
          have HPN := Lib.hid (HP.out.on ((Below.refl wr.heap.size wr).alloc (Nat.le_refl _) (.cells #[.int .u32 (xa : Int), .int .i64 (k : Int)] 51)))
          have HNB := Lib.hid (Bk.new wr 51 #[.int .u32 (xa : Int), .int .i64 (k : Int)])
          obtain ⟨v0, hv0⟩ : ∃ v, wr.alloc (.cells #[.int .u32 (xa : Int), .int .i64 (k : Int)] 51) = v := ⟨_, rfl⟩
          obtain ⟨nb, hnb⟩ : ∃ nb, wr.heap.size = nb := ⟨_, rfl⟩
          rw [hv0] at HPN HNB ⊢
          rw [hnb] at HNB ⊢
          clear hv0 hnb c0 c1 t3
          have d0 : v0.cell? ⟨nb, 0, none⟩ = some (.int .u32 (xa : Int)) := HNB.out.cell 0
          have d1 : v0.cell? ⟨nb, 1, none⟩ = some (.int .i64 (k : Int)) := HNB.out.cell 1
          cases q with
          | true =>
            go_quiet (fail)
            go_wp2
            go_roundw
            case rel => exact ⟨i + 1, true, by omega, by first | rfl | simp, by go_num, Lib.hid (by rw [HST.out, ← Bool.or_assoc, ← HQ.out]; rfl), Lib.hid (HPN.out.on (Below.drawn _ _))⟩
            case measure => simp [intOf]; omega
          | false =>
            by_cases hk0 : k = 0
            · subst hk0
              have HIN := Lib.hid (in_every (a := a) HXR.out HXL.out ha)
              go_quiet (fail)
              go_wp2
              go_roundw
              case rel => exact ⟨i + 1, true, by omega, by first | rfl | simp, by go_num, Lib.hid (by rw [HST.out, ← Bool.or_assoc, ← HQ.out, Bool.false_or, HIN.out]), Lib.hid (HPN.out.on (Below.drawn _ _))⟩
              case measure => simp [intOf]; omega
            · have HIN := Lib.hid (in_div (a := a) HXR.out)
              have hk1 : ((k : Int) == 0) = false := by rw [beq_eq_false_iff_ne]; omega
              have hk2 : decide ((0 : Int) < (k : Int)) = true := decide_eq_true (by omega)
              have hk3 : (0 : Int) < (k : Int) := by omega
              have hk4 : 0 < k := by omega
              have hk5 : decide (0 < k) = true := decide_eq_true hk4
              obtain ⟨d, hd⟩ : ∃ d, 32 - k = d := ⟨_, rfl⟩
              have hw := (iwrap ((32 : Int) - (k : Int)) d (by omega) (by omega)).1
              have hw2 : (32 : Int) - (k : Int) = (d : Int) := by omega
              rw [hd] at HIN
              have hd32 : d < 32 := by omega
              clear hd
              go_quiet (fail)
              go_wp2
              go_roundw
              case rel => exact ⟨i + 1, _, by omega, rfl, by go_num, Lib.hid (by rw [HST.out, ← Bool.or_assoc, ← HQ.out, HIN.out, div_eq, Bool.false_or]), Lib.hid (HPN.out.on (Below.drawn _ _))⟩
              case measure => simp [intOf]; omega
        · have hi2 : ¬ (i : Int) < (nl : Int) := by omega
          have HAN := Lib.hid (show q = (decide (ynl = []) || netsB ynl a) by rw [HQ.out, List.take_of_length_le (by rw [HNL.out]; omega)])
          have HAU := Lib.hid (HAM.out wr _ HP.out)
          rw [← HAN.out] at HAU
          cases is with
          | false =>
            go_wp2_with (go_at_call 16; (with_reducible refine HAU.out.mono ?_); rintro e u5 ⟨rfl, hv⟩; have HV6 := Lib.hid hv; clear hv)
            go_ret
            exact ⟨by first | rfl | simp, HV6.out.l⟩
          | true =>
            cases q with
            | false =>
              go_wp2_with (go_at_call 16; (with_reducible refine HAU.out.mono ?_); rintro e u5 ⟨rfl, hv⟩; have HV6 := Lib.hid hv; clear hv)
              go_ret
              exact ⟨by first | rfl | simp, HV6.out.l⟩
            | true =>
              go_wp2_with (go_at_call 16; (with_reducible refine HAU.out.mono ?_); rintro e u5 ⟨rfl, hv⟩; have HV6 := Lib.hid hv; clear hv)
              go_ret
              exact ⟨by first | rfl | simp, HV6.out.l⟩
    · have hm2 : decide ((1000 : Int) < (s.size : Int)) = true := decide_eq_true (by omega)
      go_wp2_with (go_at_call 10; (with_reducible refine (HGR.out _ HV2.out.l).mono ?_); rintro e u3 ⟨gr, rfl, _, hb⟩; have HV3 := Lib.hid (HV2.out.on hb); clear hb; cases gr)
      all_goals go_ret
      all_goals exact ⟨rfl, HV3.out.l⟩
end Go.Proofs.Ytcplebbaiambgaa
