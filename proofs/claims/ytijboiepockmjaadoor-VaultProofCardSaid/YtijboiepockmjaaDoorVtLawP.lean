/- VaultProof: the walk. (Written by gen_vtlaws.py.) -/
import Derived.Test.YtijboiepockmjaaDoorVtLawT
namespace Go.Proofs.YtijboiepockmjaaDoor
set_option linter.unusedVariables false
set_option maxRecDepth 100000
set_option linter.unusedSimpArgs false
open Go.RowKit

/-- What the two checks come to. -/
theorem vp_cases (K : Option Tk) (s t nn pf : ByteArray) (now : Int) (W : ByteArray) (hW : (⟨(proofB (K.getD zeroTk).sec.data.toList [s, t, nn]).toArray⟩ : ByteArray) = W) :
    (((K.isSome && decide (now < (K.getD zeroTk).till)) = false ∧ ckI (gdB K false now) (wnB K s t nn) pf = 3 ∧ ckI (gdB K false now) (wnB K s t nn) W = 3) ∨
    ((K.isSome && decide (now < (K.getD zeroTk).till)) = true ∧ W.data.toList = [] ∧ ckI (gdB K false now) (wnB K s t nn) pf = 101 ∧ ckI (gdB K false now) (wnB K s t nn) W = 101)) ∨
    ((K.isSome && decide (now < (K.getD zeroTk).till)) = true ∧ W.data.toList ≠ [] ∧ pf = W ∧ ckI (gdB K false now) (wnB K s t nn) pf = 0 ∧ ckI (gdB K false now) (wnB K s t nn) W = 0) ∨
    ((K.isSome && decide (now < (K.getD zeroTk).till)) = true ∧ W.data.toList ≠ [] ∧ pf ≠ W ∧ ckI (gdB K false now) (wnB K s t nn) pf = 101 ∧ ckI (gdB K false now) (wnB K s t nn) W = 0) := by
  cases K with
  | none => exact .inl (.inl ⟨rfl, rfl, rfl⟩)
  | some k =>
    have e : W.data.toList = proofB k.sec.data.toList [s, t, nn] := by rw [← hW]; simp
    have e2 : wnB (some k) s t nn = W.data.toList := e.symm
    rw [e2]
    have e3 : gdB (some k) false now = decide (now < k.till) := by simp [gdB]
    rw [e3]
    simp only [Option.isSome_some, Bool.true_and, Option.getD_some]
    cases hq : decide (now < k.till) with
    | false => exact .inl (.inl ⟨rfl, rfl, rfl⟩)
    | true =>
      by_cases h0 : W.data.toList = []
      · exact .inl (.inr ⟨rfl, h0, ck_bad h0, ck_bad h0⟩)
      · by_cases hp : pf = W
        · exact .inr (.inl ⟨rfl, h0, hp, by rw [hp]; exact ck_ok h0 rfl, ck_ok h0 rfl⟩)
        · refine .inr (.inr ⟨rfl, h0, hp, ck_other (fun h => hp ?_), ck_ok h0 rfl⟩)
          rw [← bs_of pf, ← bs_of W, h]

set_option maxRecDepth 100000 in
set_option maxHeartbeats 16000000 in
theorem walk_VaultProof (x : Cv) (s t nn pf : ByteArray) (now : Int) (w : World) (h : InCf w x) (hs : s.size ≤ 140737488355328) (ht : t.size ≤ 140737488355328) (hnn : nn.size ≤ 140737488355328) (hpf : pf.size ≤ 140737488355328) (wnow : (Lit.int .i64 now).wf = true) (hG : Gl w) :
    Calls Tryd.prog 4 #[.agg (ccs x), .string s, .string t, .string nn, .string pf, .int .i64 now] w fun e w' => e = .returned (.bool true) ∧ Below w.heap.size w w' := by
  have HGR := Lib.hid (fun u (hu : Below w.heap.size w u) => great_ok x u (h.on hu))
  have HN0 := Lib.hid (fun (hc : cfgB x.cg = false) => vnew_no h.rc hc)
  have HN1 := Lib.hid (fun (hc : cfgB x.cg = true) => vnew_yes h.rc hc)
  have HRT := Lib.hid h.rc.r
  have HMX := Lib.hid h.rc.f.max
  have HCP := Lib.hid h.rc.f.cap
  have HSE := Lib.hid (fun (hc : cfgB x.cg = true) (a b : ByteArray) k (hk : tkN x.cg.tens a b = some k) => (tkN_till hc hk).2.2.2)
  have HTN := Lib.hid (show ∀ a b, tkT x.ts a b = tkN x.cg.tens a b from fun a b => tkT_is _ _ _)
  obtain ⟨C, hC⟩ : ∃ C, cfgB x.cg = C := ⟨_, rfl⟩
  simp only [hC] at HN0 HN1 HSE
  obtain ⟨tn, htn⟩ : ∃ tn, x.cg.tens = tn := ⟨_, rfl⟩
  rw [htn] at HN1 HSE HTN
  obtain ⟨a0, a1, a2, a3, ts, A, c⟩ := x
  obtain ⟨n, hn⟩ : ∃ n, ts.length = n := ⟨_, rfl⟩
  have HN := Lib.hid hn
  dsimp only at HRT HMX HCP HTN
  simp only [ccs, hn] at HGR HN0 HN1 ⊢
  have HX := Lib.hid (show Bx w w.heap.size 24 #[.int .i64 a0, .int .i64 a1, .int .i64 a2, .int .i64 a3, .slice A n c] (w.alloc (.cells #[.int .i64 a0, .int .i64 a1, .int .i64 a2, .int .i64 a3, .slice A n c] 24)) from Bx.new w _ _)
  have HG := Lib.hid hG
  clear h hn hC htn hG
  obtain ⟨m, hm⟩ : ∃ m : Nat, (s.size : Int) + (t.size : Int) + (nn.size : Int) + (pf.size : Int) = (m : Int) := ⟨s.size + t.size + nn.size + pf.size, by omega⟩
  have hm47 : m ≤ 562949953421312 := by omega
  have HSZ := Lib.hid (And.intro hs (And.intro ht (And.intro hnn (And.intro hpf hm))))
  go_enter Tryd.func4, Tryd.ntmps4
  go_upto_region 2 with (go_at_call 9; refine (vhead_ok _ (HG.out.below HX.out.l HG.out.size)).mono ?_; rintro e u1 ⟨rfl, hb⟩; have HX1 := Lib.hid (HX.out.on hb); clear hb)
  obtain ⟨g0, hg0⟩ : ∃ g, w.heap.size = g := ⟨_, rfl⟩
  have HG0 := Lib.hid hg0
  rw [hg0] at HX1 ⊢
  clear hg0
  have e0 : u1.cell? ⟨g0, 0, none⟩ = some (.int .i64 a0) := HX1.out.b.cell 0
  have e1 : u1.cell? ⟨g0, 1, none⟩ = some (.int .i64 a1) := HX1.out.b.cell 1
  have e2 : u1.cell? ⟨g0, 2, none⟩ = some (.int .i64 a2) := HX1.out.b.cell 2
  have e3 : u1.cell? ⟨g0, 3, none⟩ = some (.int .i64 a3) := HX1.out.b.cell 3
  have e4 : u1.cell? ⟨g0, 4, none⟩ = some (.slice A n c) := HX1.out.b.cell 4
  cases C with
  | false =>
    go_wp2_with (go_at_call 12; (with_reducible refine (HN0.out (by first | rfl | trivial) _ HX1.out.l).mono ?_); rintro e u2 ⟨rfl, hb⟩; have HX2 := Lib.hid (HX1.out.on hb); clear hb)
    go_ret
    exact ⟨rfl, HX2.out.l⟩
  | true =>
    go_upto_region 3 with (go_at_call 12; (with_reducible refine (HN1.out (by first | rfl | trivial) _ HX1.out.l [(g0, 24, #[.int .i64 a0, .int .i64 a1, .int .i64 a2, .int .i64 a3, .slice A n c])] (fun b hb => by obtain rfl := List.mem_singleton.1 hb; exact HX1.out.b)).mono ?_); rintro e u2 ⟨v, mb, rfl, hv, _, _, _⟩; have HV2 := Lib.hid hv; clear hv)
    clear e0 e1 e2 e3 e4
    have e0 : u2.cell? ⟨g0, 0, none⟩ = some (.int .i64 a0) := HV2.out.head.cell 0
    have e1 : u2.cell? ⟨g0, 1, none⟩ = some (.int .i64 a1) := HV2.out.head.cell 1
    have e2 : u2.cell? ⟨g0, 2, none⟩ = some (.int .i64 a2) := HV2.out.head.cell 2
    have e3 : u2.cell? ⟨g0, 3, none⟩ = some (.int .i64 a3) := HV2.out.head.cell 3
    have e4 : u2.cell? ⟨g0, 4, none⟩ = some (.slice A n c) := HV2.out.head.cell 4
    by_cases hm1 : m ≤ 2000
    · have hm2 : ¬ (2000 : Int) < (m : Int) := by omega
      have hm3 : ¬ (m : Int) > 2000 := by omega
      have HTB := Lib.hid (show Option.getD (fT s ts) zeroTv = (fT s ts).getD zeroTv ∧ fK t ((fT s ts).getD zeroTv).t.toks = tkN tn s t from ⟨rfl, HTN.out s t⟩)
      obtain ⟨⟨⟨yn, ya, yb, ynl, ykl⟩, yAn, ycn, yAk, yck⟩, hy⟩ : ∃ y, (fT s ts).getD zeroTv = y := ⟨_, rfl⟩
      obtain ⟨is1, his1⟩ : ∃ is1, (fT s ts).isSome = is1 := ⟨_, rfl⟩
      have HRY := Lib.hid (show RT1 w ⟨⟨yn, ya, yb, ynl, ykl⟩, yAn, ycn, yAk, yck⟩ by
        rw [← hy]
        cases hq : fT s ts with
        | none => exact RT1.zero w
        | some y => exact HRT.out.each y (fT_mem hq).1)
      have HKF := Lib.hid HTB.out.2
      rw [hy] at HKF
      dsimp only at HKF
      obtain ⟨K, hK⟩ : ∃ K, tkN tn s t = K := ⟨_, rfl⟩
      have HSK := Lib.hid (fun k (hk : K = some k) => HSE.out (by first | rfl | trivial) s t k (hK.trans hk))
      have HFI := Lib.hid (fun u (hu : Below w.heap.size w u) => rfind_ok (.int .i64 a0) (.int .i64 a1) (.int .i64 a2) (.int .i64 a3) A ts n c s u (HRT.out.on hu) HN.out (by have h1 := HMX.out; have h2 := HCP.out; rw [HN.out] at h2; omega))
      rw [hy, his1] at HFI
      rw [hK] at HKF
      have HTO := Lib.hid (fun u (hu : Below w.heap.size w u) => rtoken_ok (.string yn) (.int .i64 ya) (.int .i64 yb) (.slice yAn ynl.length ycn) yAk ykl ykl.length yck t u (HRY.out.k.on hu) rfl (by have h1 := HRY.out.fk.max; have h2 := HRY.out.fk.cap; dsimp only at h1 h2; omega))
      rw [HKF.out] at HTO
      obtain ⟨W, hW⟩ : ∃ W : ByteArray, (⟨(proofB (K.getD zeroTk).sec.data.toList [s, t, nn]).toArray⟩ : ByteArray) = W := ⟨_, rfl⟩
      have HCS := Lib.hid (vp_cases K s t nn pf now W hW)
      have HWZ := Lib.hid (show W.size ≤ 64 by
        have h1 := wnB_len (some (K.getD zeroTk)) s t nn
        rw [← hW]
        show (proofB (K.getD zeroTk).sec.data.toList [s, t, nn]).toArray.size ≤ 64
        rw [List.size_toArray]
        exact h1)
      obtain ⟨E1, hE1⟩ : ∃ E1, ckI (gdB K false now) (wnB K s t nn) pf = E1 := ⟨_, rfl⟩
      obtain ⟨E2, hE2⟩ : ∃ E2, ckI (gdB K false now) (wnB K s t nn) W = E2 := ⟨_, rfl⟩
      rw [hE1, hE2] at HCS
      have HC1 := Lib.hid (fun (L : List (Nat × TypeId × Array Value)) u (hu : Lv w v mb tn [] L u) => lv_check hu HG.out s t nn pf now HSZ.out.2.2.1 (by have := HSZ.out.2.2.2.2; omega))
      have HC2 := Lib.hid (fun (L : List (Nat × TypeId × Array Value)) u (hu : Lv w v mb tn [] L u) => lv_check hu HG.out s t nn W now HSZ.out.2.2.1 (by have := HWZ.out; omega))
      rw [hK] at HC1 HC2
      simp only [show inR [] s t = false from rfl, hE1] at HC1
      simp only [show inR [] s t = false from rfl, hE2] at HC2
      obtain ⟨is, his⟩ : ∃ is, K.isSome = is := ⟨_, rfl⟩
      have HKS := Lib.hid (show (K.getD zeroTk).sec.size ≤ 32 by
        cases hk : K with
        | none => decide
        | some k => exact HSK.out k hk)
      obtain ⟨⟨kn, ks, ku⟩, hkd⟩ : ∃ k, K.getD zeroTk = k := ⟨_, rfl⟩
      rw [his] at HTO HCS
      rw [hkd] at HTO HCS HKS hW
      dsimp only at hW HCS HKS
      have HW := Lib.hid hW
      simp only [tcs] at HFI
      simp only [kcs] at HTO
      clear hy his1 hK hE1 hE2 his hkd hW HTB HKF HSK HN0 HN1 HSE HTN
      go_upto_region 5 with (go_at_call 10; (with_reducible refine (HGR.out _ HV2.out.l).mono ?_); rintro e u3 ⟨g, rfl, _, hb⟩; have HV3 := Lib.hid (HV2.out.on hb); clear hb; cases g)
      any_goals (go_ret; exact ⟨rfl, HV3.out.l⟩)
      clear e0 e1 e2 e3 e4
      have e0 : u3.cell? ⟨g0, 0, none⟩ = some (.int .i64 a0) := HV3.out.head.cell 0
      have e1 : u3.cell? ⟨g0, 1, none⟩ = some (.int .i64 a1) := HV3.out.head.cell 1
      have e2 : u3.cell? ⟨g0, 2, none⟩ = some (.int .i64 a2) := HV3.out.head.cell 2
      have e3 : u3.cell? ⟨g0, 3, none⟩ = some (.int .i64 a3) := HV3.out.head.cell 3
      have e4 : u3.cell? ⟨g0, 4, none⟩ = some (.slice A n c) := HV3.out.head.cell 4
      go_upto_region 7 with (first
        | (go_at_call 22; (with_reducible refine (HFI.out _ HV3.out.l).mono ?_); rintro e u4 ⟨rfl, hb⟩; have HV4 := Lib.hid ((HV3.out.on hb).new 44 #[.string yn, .int .i64 ya, .int .i64 yb, .slice yAn ynl.length ycn, .slice yAk ykl.length yck]); clear hb)
        | (go_at_call 23; (with_reducible refine (HTO.out _ HV4.out.l).mono ?_); rintro e u5 ⟨rfl, hb⟩; have HV5 := Lib.hid ((HV4.out.on hb).new 48 #[.string kn, .string ks, .int .i64 ku]); clear hb))
      clear e0 e1 e2 e3 e4
      obtain ⟨v6, hv6⟩ : ∃ v6, u5.alloc (.cells #[.string kn, .string ks, .int .i64 ku] 48) = v6 := ⟨_, rfl⟩
      rw [hv6] at HV5 ⊢
      obtain ⟨g5, hg5⟩ : ∃ g, u5.heap.size = g := ⟨_, rfl⟩
      rw [hg5] at HV5 ⊢
      clear hv6 hg5 HV4
      have HV6 := Lib.hid (HV5.out.less (L' := [(g5, 48, #[.string kn, .string ks, .int .i64 ku])]) (fun b hb => by obtain rfl := List.mem_singleton.1 hb; exact List.mem_cons_self ..))
      obtain ⟨cap, ob, hcb, hcap1, hcap2, hRB⟩ := conv_back ks (by have := HKS.out; omega) v6
      have hbo : Below v6.heap.size v6 (v6.drew.alloc ob) := (Below.refl _ _).drew.alloc (Nat.le_refl _) _
      have hz0 : (v6.drew.alloc ob).heap.size = v6.heap.size + 1 := World.size_alloc ..
      obtain ⟨v7, hv7⟩ : ∃ v7, v6.drew.alloc ob = v7 := ⟨_, rfl⟩
      rw [hv7] at hcb hRB hbo hz0
      clear hv7
      have e1 : v6.cell? ⟨g5, 1, none⟩ = some (.string ks) := HV6.out.head.cell 1
      have HPR := Lib.hid (show Calls Tryd.prog 24 #[.slice (some ⟨v6.heap.size, 0, none⟩) ks.size cap, .slice (some ⟨v6.heap.size + 1, 0, none⟩) 3 3] (v7.alloc (.cells #[.string s, .string t, .string nn] 9)) fun e w' => e = .returned (.string W) ∧ Lv w v mb tn [] [(g5, 48, #[.string kn, .string ks, .int .i64 ku])] w' from by
        have hb2 := (Below.refl v7.heap.size v7).alloc (Nat.le_refl _) (.cells #[.string s, .string t, .string nn] 9)
        have hz := hz0
        have hbk : Bk (v7.alloc (.cells #[.string s, .string t, .string nn] 9)) (v6.heap.size + 1) 9 #[.string s, .string t, .string nn] := by
          have := Bk.new v7 9 #[.string s, .string t, .string nn]
          rwa [hz] at this
        have hbb : Below v6.heap.size v6 (v7.alloc (.cells #[.string s, .string t, .string nn] 9)) := hbo.trans (hb2.mono hbo.size)
        refine (rproof_ok (some ⟨v6.heap.size, 0, none⟩) ks.size cap ks.data.toList (some ⟨v6.heap.size + 1, 0, none⟩) 3 3 [s, t, nn] _ rfl hcap1 hcap2 (by have := HKS.out; omega) ((hRB.below hb2 (Nat.le_refl _)).more hb2.size) (fun h => by cases h) rfl (by omega) ?_ ?_ (texts3 _ _ _)).mono fun e w' hh => ⟨by rw [hh.1, HW.out], HV6.out.on (hbb.trans (hh.2.mono hbb.size))⟩
        · refine .inr ⟨v6.heap.size + 1, 0, rfl, hbk.lt, fun i hi => ?_⟩
          rw [hbk.cell]
          match i, hi with
          | 0, _ => rfl
          | 1, _ => rfl
          | 2, _ => rfl
        · intro y hy
          simp only [List.mem_cons, List.not_mem_nil, or_false] at hy
          have h1 := HSZ.out
          rcases hy with rfl | rfl | rfl
          · exact h1.1
          · exact h1.2.1
          · exact h1.2.2.1)
      clear hRB hbo
      go_upto_region 10 with (first
        | (go_at_call 24; (with_reducible refine HPR.out.mono ?_); rintro e u7 ⟨rfl, hv⟩; have HV7 := Lib.hid hv; clear hv)
        | (go_at_call 20; (with_reducible refine (HC1.out _ _ HV7.out).mono ?_); rintro e u8 ⟨rfl, hv⟩; have HV8 := Lib.hid hv; clear hv)
        | (go_at_call 20; (with_reducible refine (HC2.out _ _ HV8.out).mono ?_); rintro e u9 ⟨rfl, hv⟩; have HV9 := Lib.hid hv; clear hv))
      have e2 : u9.cell? ⟨g5, 2, none⟩ = some (.int .i64 ku) := HV9.out.head.cell 2
      have hcs := HCS.out
      have HSM := Lib.hid (show ∀ a b : ByteArray, (a.toList == b.toList) = decide (a = b) from fun a b => by
        by_cases h : a = b
        · subst h; simp
        · rw [decide_eq_false h, ← Bool.not_eq_true, beq_iff_eq, ByteArray.toList_eq, ByteArray.toList_eq]
          intro e
          exact h (by rw [← bs_of a, ← bs_of b, e]))
      have HSE := Lib.hid (show (W.toList == []) = decide (W.data.toList = []) from by rw [ByteArray.toList_eq]; cases W.data.toList <;> rfl)
      clear HCS
      cases is with
      | false =>
        obtain ⟨rfl, rfl⟩ : E1 = 3 ∧ E2 = 3 := by
          rcases hcs with (h | h) | h | h
          · exact h.2
          · exact absurd h.1 (by simp)
          · exact absurd h.1 (by simp)
          · exact absurd h.1 (by simp)
        clear hcs
        go_wp2
        go_ret
        exact ⟨rfl, HV9.out.l⟩
      | true =>
        simp only [Bool.true_and] at hcs
        rcases hcs with (⟨h1, rfl, rfl⟩ | ⟨h1, h2, rfl, rfl⟩) | ⟨h1, h2, rfl, rfl, rfl⟩ | ⟨h1, h2, h3, rfl, rfl⟩
        · have h1' : ¬ now < ku := by simpa using h1
          go_wp2
          go_ret
          exact ⟨rfl, HV9.out.l⟩
        · have h1' : now < ku := by simpa using h1
          have hq1 : (W.toList == []) = true := by rw [HSE.out]; exact decide_eq_true h2
          cases hpw : (pf.toList == W.toList)
          all_goals
            go_wp2
            go_ret
            exact ⟨rfl, HV9.out.l⟩
        · have h1' : now < ku := by simpa using h1
          have hq1 : (pf.toList == []) = false := by rw [HSE.out]; exact decide_eq_false h2
          have hpw : (pf.toList == pf.toList) = true := beq_self_eq_true _
          go_wp2
          go_ret
          exact ⟨rfl, HV9.out.l⟩
        · have h1' : now < ku := by simpa using h1
          have hq1 : (W.toList == []) = false := by rw [HSE.out]; exact decide_eq_false h2
          have hpw : (pf.toList == W.toList) = false := by rw [HSM.out]; exact decide_eq_false h3
          go_wp2
          go_ret
          exact ⟨rfl, HV9.out.l⟩
    · have hm2 : (2000 : Int) < (m : Int) := by omega
      have hm3 : (m : Int) > 2000 := by omega
      go_wp2_with (go_at_call 10; (with_reducible refine (HGR.out _ HV2.out.l).mono ?_); rintro e u3 ⟨g, rfl, _, hb⟩; have HV3 := Lib.hid (HV2.out.on hb); clear hb; cases g)
      all_goals go_ret
      all_goals exact ⟨rfl, HV3.out.l⟩
end Go.Proofs.YtijboiepockmjaaDoor
