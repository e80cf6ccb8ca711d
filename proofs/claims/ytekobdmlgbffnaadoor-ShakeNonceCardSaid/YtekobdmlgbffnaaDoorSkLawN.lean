/- ShakeNonce: the walk. (Written by gen_sknonce.py.) -/
import Derived.Test.YtekobdmlgbffnaaDoorSkLawB
namespace Go.Proofs.YtekobdmlgbffnaaDoor
set_option linter.unusedVariables false
set_option maxRecDepth 100000
set_option linter.unusedSimpArgs false
open Go.RowKit

/-- What the proof of another nonce comes to, with letters. -/
theorem nonce_out (c : List Tn) (s t p1 P P1 : ByteArray) (now : Int) (hP1 : (⟨(wnB (tkN c s t) s t p1).toArray⟩ : ByteArray) = P1) :
    ∃ (kn : Bool) (k' n' : Int) (s' : Sk), kn = ((P.toList == P1.toList) && !P.toList.isEmpty && gdB (tkN c s t) (inR [] s t) now) ∧ knS s' = kn ∧
      hsM (ckF c []) (.ask s t p1) ⟨3, P, eS, 0, 0⟩ now eS = ⟨k', eS, eS, n', 0⟩ ∧ hsS (ckF c []) (.ask s t p1) ⟨3, P, eS, 0, 0⟩ now eS = s' := by
  have h1 := want_nil hP1
  have hz : ckF c [] s t p1 P now = 0 ↔ (gdB (tkN c s t) (inR [] s t) now = true ∧ P1.toList ≠ [] ∧ P1.toList = P.toList) := by
    show ckI _ _ _ = 0 ↔ _
    rw [ck_zero, ByteArray.toList_eq, ByteArray.toList_eq, h1]
  have hk : (decide (ckF c [] s t p1 P now = 0)) = ((P.toList == P1.toList) && !P.toList.isEmpty && gdB (tkN c s t) (inR [] s t) now) := by
    by_cases h0 : ckF c [] s t p1 P now = 0
    · obtain ⟨h2, h3, h4⟩ := hz.1 h0
      rw [decide_eq_true h0, h2, ← h4, beq_self_eq_true]
      cases hq : P1.toList with
      | nil => exact absurd hq h3
      | cons x r => rfl
    · rw [decide_eq_false h0]
      symm
      rw [Bool.eq_false_iff]
      intro h
      rw [Bool.and_eq_true, Bool.and_eq_true, beq_iff_eq] at h
      refine h0 (hz.2 ⟨h.2, ?_, h.1.1.symm⟩)
      intro e
      rw [h.1.1, e] at h
      exact absurd h.1.2 (by simp)
  by_cases h0 : ckF c [] s t p1 P now = 0
  · exact ⟨true, 4, 0, .known s, by rw [← hk, decide_eq_true h0], rfl, if_pos h0, if_pos h0⟩
  · exact ⟨false, 5, ckF c [] s t p1 P now, .no, by rw [← hk, decide_eq_false h0], rfl, if_neg h0, if_neg h0⟩

set_option maxRecDepth 100000 in
set_option maxHeartbeats 16000000 in
theorem walk_ShakeNonce (x : Cv) (s t p1 p2 : ByteArray) (now : Int) (w : World) (h : InCf w x) (hs : s.size ≤ 140737488355328) (ht : t.size ≤ 140737488355328) (hp1 : p1.size ≤ 140737488355328) (hp2 : p2.size ≤ 140737488355328) (wn : (Lit.int .i64 now).wf = true) (hG : Gl w) :
    Calls Tryd.prog 5 #[.agg (ccs x), .string s, .string t, .string p1, .string p2, .int .i64 now] w fun e w' => e = .returned (.bool true) ∧ Below w.heap.size w w' := by
  have HGR := Lib.hid (fun u (hu : Below w.heap.size w u) => great_ok x u (h.on hu))
  have HN0 := Lib.hid (fun (hc : cfgB x.cg = false) => vnew_no h.rc hc)
  have HN1 := Lib.hid (fun (hc : cfgB x.cg = true) => vnew_yes h.rc hc)
  have HCF := Lib.hid (fun (hc : cfgB x.cg = true) => show ∃ cg : Cg, cfgB cg = true ∧ x.cg.tens = cg.tens from ⟨x.cg, hc, rfl⟩)
  obtain ⟨C, hC⟩ : ∃ C, cfgB x.cg = C := ⟨_, rfl⟩
  simp only [hC] at HN0 HN1 HCF
  obtain ⟨tn, htn⟩ : ∃ tn, x.cg.tens = tn := ⟨_, rfl⟩
  rw [htn] at HN1 HCF
  obtain ⟨a0, a1, a2, a3, ts, A, c⟩ := x
  obtain ⟨n, hn⟩ : ∃ n, ts.length = n := ⟨_, rfl⟩
  simp only [ccs, hn] at HGR HN0 HN1 ⊢
  have HX := Lib.hid (show Bx w w.heap.size 24 #[.int .i64 a0, .int .i64 a1, .int .i64 a2, .int .i64 a3, .slice A n c] (w.alloc (.cells #[.int .i64 a0, .int .i64 a1, .int .i64 a2, .int .i64 a3, .slice A n c] 24)) from Bx.new w _ _)
  have HG := Lib.hid hG
  clear h hn hC htn hG
  obtain ⟨m, hm⟩ : ∃ m : Nat, (s.size : Int) + (t.size : Int) = (m : Int) := ⟨s.size + t.size, by omega⟩
  have hm47 : m ≤ 281474976710656 := by omega
  have HM := Lib.hid (show m = s.size + t.size by omega)
  go_enter Tryd.func5, Tryd.ntmps5
  go_upto_region 2 with (go_at_call 8; refine (shead_ok _ (HG.out.below HX.out.l HG.out.size)).mono ?_; rintro e u1 ⟨rfl, hb⟩; have HX1 := Lib.hid (HX.out.on hb); clear hb)
  obtain ⟨g0, hg0⟩ : ∃ g, w.heap.size = g := ⟨_, rfl⟩
  have HG0 := Lib.hid hg0
  rw [hg0] at HX1 ⊢
  clear hg0
  have e0 : u1.cell? ⟨g0, 0, none⟩ = some (.int .i64 a0) := HX1.out.b.cell 0
  have e1 : u1.cell? ⟨g0, 1, none⟩ = some (.int .i64 a1) := HX1.out.b.cell 1
  have e2 : u1.cell? ⟨g0, 2, none⟩ = some (.int .i64 a2) := HX1.out.b.cell 2
  have e3 : u1.cell? ⟨g0, 3, none⟩ = some (.int .i64 a3) := HX1.out.b.cell 3
  have e4 : u1.cell? ⟨g0, 4, none⟩ = some (.slice A n c) := HX1.out.b.cell 4
  cases C with
  | false =>
    go_wp2_with (go_at_call 9; (with_reducible refine (HN0.out (by first | rfl | trivial) _ HX1.out.l).mono ?_); rintro e u2 ⟨rfl, hb⟩; have HX2 := Lib.hid (HX1.out.on hb); clear hb)
    go_ret
    exact ⟨rfl, HX2.out.l⟩
  | true =>
    go_upto_region 3 with (go_at_call 9; (with_reducible refine (HN1.out (by first | rfl | trivial) _ HX1.out.l [(g0, 24, #[.int .i64 a0, .int .i64 a1, .int .i64 a2, .int .i64 a3, .slice A n c])] (fun b hb => by obtain rfl := List.mem_singleton.1 hb; exact HX1.out.b)).mono ?_); rintro e u2 ⟨v, mb, rfl, hv, _, _, hbb⟩; have HV2 := Lib.hid hv; have HBB2 := Lib.hid hbb; clear hv hbb)
    clear e0 e1 e2 e3 e4
    have HSB := Lib.hid (show Sb w u2 v mb tn from ⟨HV2.out.less (fun b hb => absurd hb List.not_mem_nil), HCF.out (by first | rfl | trivial)⟩)
    have HMV := Lib.hid (show Mv u2 mb [] from HV2.out.va.mp)
    have e0 : u2.cell? ⟨g0, 0, none⟩ = some (.int .i64 a0) := HV2.out.head.cell 0
    have e1 : u2.cell? ⟨g0, 1, none⟩ = some (.int .i64 a1) := HV2.out.head.cell 1
    have e2 : u2.cell? ⟨g0, 2, none⟩ = some (.int .i64 a2) := HV2.out.head.cell 2
    have e3 : u2.cell? ⟨g0, 3, none⟩ = some (.int .i64 a3) := HV2.out.head.cell 3
    have e4 : u2.cell? ⟨g0, 4, none⟩ = some (.slice A n c) := HV2.out.head.cell 4
    by_cases hm1 : m ≤ 1000
    rotate_left
    · have hm2 : (1000 : Int) < (m : Int) := by omega
      have hm3 : (m : Int) > 1000 := by omega
      go_wp2_with (go_at_call 10; (with_reducible refine (HGR.out _ HV2.out.l).mono ?_); rintro e u3 ⟨gr, rfl, _, hb⟩; have HV3 := Lib.hid (HV2.out.on hb); have HK3 := Lib.hid (show Ke [mb] u2 u3 from (Ke.of hb).nil); have HM3 := Lib.hid (show Mv u3 mb [] from HMV.out.ke (Ke.of hb) (by simp)); clear hb; cases gr)
      all_goals go_ret
      all_goals exact ⟨rfl, HV3.out.l⟩
    · have hm2 : ¬ (1000 : Int) < (m : Int) := by omega
      have hm3 : ¬ (m : Int) > 1000 := by omega
      by_cases hn1 : p1.size ≤ 64
      rotate_left
      · have hn2 : decide ((64 : Int) < (p1.size : Int)) = true := decide_eq_true (by omega)
        go_wp2_with (go_at_call 10; (with_reducible refine (HGR.out _ HV2.out.l).mono ?_); rintro e u3 ⟨gr, rfl, _, hb⟩; have HV3 := Lib.hid (HV2.out.on hb); have HK3 := Lib.hid (show Ke [mb] u2 u3 from (Ke.of hb).nil); have HM3 := Lib.hid (show Mv u3 mb [] from HMV.out.ke (Ke.of hb) (by simp)); clear hb; cases gr)
        all_goals go_ret
        all_goals exact ⟨rfl, HV3.out.l⟩
      have hn2 : decide ((64 : Int) < (p1.size : Int)) = false := decide_eq_false (by omega)
      by_cases hn3 : p2.size ≤ 64
      rotate_left
      · have hn4 : decide ((64 : Int) < (p2.size : Int)) = true := decide_eq_true (by omega)
        go_wp2_with (go_at_call 10; (with_reducible refine (HGR.out _ HV2.out.l).mono ?_); rintro e u3 ⟨gr, rfl, _, hb⟩; have HV3 := Lib.hid (HV2.out.on hb); have HK3 := Lib.hid (show Ke [mb] u2 u3 from (Ke.of hb).nil); have HM3 := Lib.hid (show Mv u3 mb [] from HMV.out.ke (Ke.of hb) (by simp)); clear hb; cases gr)
        all_goals go_ret
        all_goals exact ⟨rfl, HV3.out.l⟩
      have hn4 : decide ((64 : Int) < (p2.size : Int)) = false := decide_eq_false (by omega)
      have HNN := Lib.hid (And.intro hn1 hn3)
      go_upto_region 5 with (go_at_call 10; (with_reducible refine (HGR.out _ HV2.out.l).mono ?_); rintro e u3 ⟨gr, rfl, _, hb⟩; have HV3 := Lib.hid (HV2.out.on hb); have HK3 := Lib.hid (show Ke [mb] u2 u3 from (Ke.of hb).nil); have HM3 := Lib.hid (show Mv u3 mb [] from HMV.out.ke (Ke.of hb) (by simp)); clear hb; cases gr)
      any_goals (go_ret; exact ⟨rfl, HV3.out.l⟩)
      clear e0 e1 e2 e3 e4 hm2 hm3 hn2 hn4
      go_upto_region 6 with (go_at_call 12; (with_reducible refine (ss_new HSB.out [] HK3.out HM3.out (fun y hy => absurd hy List.not_mem_nil)).mono ?_); rintro e u4 ⟨rfl, hs⟩; have HS4 := Lib.hid hs; clear hs)
      obtain ⟨sb, hsb⟩ : ∃ sb, u3.heap.size = sb := ⟨_, rfl⟩
      rw [hsb] at HS4 ⊢
      clear hsb
      have HZ := Lib.hid (show s.size ≤ 1000 ∧ t.size ≤ 1000 by have := HM.out; omega)
      obtain ⟨P, hP⟩ : ∃ P : ByteArray, (⟨(wnB (tkN tn s t) s t p2).toArray⟩ : ByteArray) = P := ⟨_, rfl⟩
      obtain ⟨P1, hP1⟩ : ∃ P : ByteArray, (⟨(wnB (tkN tn s t) s t p1).toArray⟩ : ByteArray) = P := ⟨_, rfl⟩
      have HPZ := Lib.hid (show P.size ≤ 1099511627776 by
        have h1 := want_nil hP
        have h2 : P.data.toList.length = P.size := rfl
        rw [h1] at h2
        have h3 := wnB_len (tkN tn s t) s t p2
        omega)
      obtain ⟨kn, k', n', s', hkn, hks, eM, eS'⟩ := nonce_out tn s t p1 P P1 now hP1
      obtain ⟨gd, hgd⟩ : ∃ gd, gdB (tkN tn s t) (inR [] s t) now = gd := ⟨_, rfl⟩
      obtain ⟨al, hal⟩ : ∃ al, (P.toList == P1.toList) = al := ⟨_, rfl⟩
      obtain ⟨pe, hpe⟩ : ∃ pe, P.toList.isEmpty = pe := ⟨_, rfl⟩
      rw [hgd, hal, hpe] at hkn
      have HWA := Lib.hid (show ∀ L u, Ss u2 mb [] sb v .new L u → Calls Tryd.prog 16 #[.pointer (some ⟨v, 0, none⟩), .string s, .string t, .string p2] u fun e u' => e = .returned (.string P) ∧ Ss u2 mb [] sb v .new L u' from fun L u hu => by rw [← hP]; exact ss_want HSB.out HG.out hu s t p2 (by have := HNN.out; omega))
      have HWB := Lib.hid (show ∀ L u, Ss u2 mb [] sb v s' L u → Calls Tryd.prog 16 #[.pointer (some ⟨v, 0, none⟩), .string s, .string t, .string p1] u fun e u' => e = .returned (.string P1) ∧ Ss u2 mb [] sb v s' L u' from fun L u hu => by rw [← hP1]; exact ss_want HSB.out HG.out hu s t p1 (by have := HNN.out; omega))
      have HGO := Lib.hid (show ∀ L u, Ss u2 mb [] sb v s' L u → Calls Tryd.prog 15 #[.pointer (some ⟨v, 0, none⟩), .string s, .string t, .int .i64 now] u fun e u' => e = .returned (.bool gd) ∧ Ss u2 mb [] sb v s' L u' from fun L u hu => by rw [← hgd]; exact ss_good HSB.out hu s t now)
      have HH1 := Lib.hid (show ∀ L u, Ss u2 mb [] sb v .new L u → Calls Tryd.prog 13 #[.pointer (some ⟨sb, 0, none⟩), .agg #[.int .i64 1, .string s, .string t, .int .i64 0, .int .i64 0], .int .i64 now, .string p1] u fun e u' => e = .returned (.tuple #[.agg #[.int .i64 2, .string p1, .string ⟨#[]⟩, .int .i64 0, .int .i64 0], .bool true]) ∧ Ss u2 mb [] sb v (.ask s t p1) L u' from fun L u hu => (ss_hear HSB.out HG.out hu ⟨1, s, t, 0, 0⟩ now p1 (show s.size ≤ 1099511627776 by have := HZ.out; omega) (show t.size ≤ 140737488355328 by have := HZ.out; omega)).mono fun e u' hh => by
        have e1 : hsM (ckF tn []) .new ⟨1, s, t, 0, 0⟩ now p1 = ⟨2, p1, eS, 0, 0⟩ := by show (⟨2, cutN p1, eS, 0, 0⟩ : Mg) = _; rw [cutN_all HNN.out.1]
        have e2 : hsS (ckF tn []) .new ⟨1, s, t, 0, 0⟩ now p1 = .ask s t p1 := by show Sk.ask s t (cutN p1) = _; rw [cutN_all HNN.out.1]
        rw [e1, e2] at hh
        exact hh)
      have HH2 := Lib.hid (show ∀ L u, Ss u2 mb [] sb v (.ask s t p1) L u → Calls Tryd.prog 13 #[.pointer (some ⟨sb, 0, none⟩), .agg #[.int .i64 3, .string P, .string ⟨#[]⟩, .int .i64 0, .int .i64 0], .int .i64 now, .string ⟨#[]⟩] u fun e u' => e = .returned (.tuple #[.agg #[.int .i64 k', .string ⟨#[]⟩, .string ⟨#[]⟩, .int .i64 n', .int .i64 0], .bool true]) ∧ Ss u2 mb [] sb v s' L u' from fun L u hu => (ss_hear HSB.out HG.out hu ⟨3, P, eS, 0, 0⟩ now eS HPZ.out (show eS.size ≤ 140737488355328 by decide)).mono fun e u' hh => by
        rw [eM, eS'] at hh
        exact hh)
      have HWH := Lib.hid (show ∀ L u, Ss u2 mb [] sb v s' L u → Calls Tryd.prog 14 #[.pointer (some ⟨sb, 0, none⟩)] u fun e u' => e = .returned (.tuple #[.string (whS s'), .bool kn]) ∧ Ss u2 mb [] sb v s' L u' from fun L u hu => by rw [← hks]; exact ss_who hu)
      obtain ⟨wh, hwh⟩ : ∃ z, whS s' = z := ⟨_, rfl⟩
      simp only [hwh] at HWH
      have HKN := Lib.hid hkn
      have HPE := Lib.hid hpe
      clear hP hP1 hkn hks eM eS' hgd hwh hpe
      go_upto_region 13 with (first
        | (go_at_call 16; (with_reducible refine (HWA.out _ _ HS4.out).mono ?_); rintro e u5 ⟨rfl, hs⟩; have HS5 := Lib.hid hs; clear hs HS4)
        | (go_at_call 13; (with_reducible refine (HH1.out _ _ HS5.out).mono ?_); rintro e u6 ⟨rfl, hs⟩; have HS6 := Lib.hid hs; clear hs HS5)
        | (go_at_call 13; (with_reducible refine (HH2.out _ _ HS6.out).mono ?_); rintro e u7 ⟨rfl, hs⟩; have HS7 := Lib.hid hs; clear hs HS6)
        | (go_at_call 14; (with_reducible refine (HWH.out _ _ HS7.out).mono ?_); rintro e u8 ⟨rfl, hs⟩; have HS8 := Lib.hid hs; clear hs HS7)
        | (go_at_call 16; (with_reducible refine (HWB.out _ _ HS8.out).mono ?_); rintro e u9 ⟨rfl, hs⟩; have HS9 := Lib.hid hs; clear hs HS8))
      clear hal
      cases al with
      | false =>
        obtain rfl : kn = false := HKN.out
        go_wp2
        go_ret
        exact ⟨rfl, HSB.out.low HS9.out⟩
      | true =>
        cases pe with
        | true =>
          obtain rfl : kn = false := HKN.out
          have hpe := HPE.out
          go_wp2
          go_ret
          exact ⟨rfl, HSB.out.low HS9.out⟩
        | false =>
          obtain rfl : kn = gd := HKN.out
          have hpe := HPE.out
          cases kn
          all_goals
            go_wp2_with (go_at_call 15; (with_reducible refine (HGO.out _ _ HS9.out).mono ?_); rintro e u10 ⟨rfl, hs⟩; have HS10 := Lib.hid hs; clear hs)
            go_ret
            exact ⟨rfl, HSB.out.low HS10.out⟩
end Go.Proofs.YtekobdmlgbffnaaDoor
