/- ShakeBetween: the walk. (Written by gen_skbetween.py.) -/
import Derived.Test.YtekobdmlgbffnaaDoorSkH
namespace Go.Proofs.YtekobdmlgbffnaaDoor
set_option linter.unusedVariables false
set_option maxRecDepth 100000
set_option linter.unusedSimpArgs false
open Go.RowKit

theorem want_nil {o : Option Tk} {a b n : ByteArray} {P : ByteArray} (h : (⟨(wnB o a b n).toArray⟩ : ByteArray) = P) : P.data.toList = wnB o a b n := by rw [← h]
/-- What the proof that was wanted comes to. -/
theorem between_ck {c : List Tn} {a b n P : ByteArray} {now : Int} (hP : (⟨(wnB (tkN c a b) a b n).toArray⟩ : ByteArray) = P) :
    (ckF c [] a b n P now = 0) ↔ (gdB (tkN c a b) (inR [] a b) now = true ∧ P.toList ≠ []) := by
  have h1 := want_nil hP
  show ckI _ _ _ = 0 ↔ _
  rw [ck_zero, ByteArray.toList_eq, h1]
  exact ⟨fun h => ⟨h.1, h.2.1⟩, fun h => ⟨h.1, h.2, rfl⟩⟩
theorem gone_ck {c : List Tn} {a b n P : ByteArray} {now : Int} : ckF c (rvG (tkN c a b) [] a b) a b n P now = 3 := by
  show ckI _ _ _ = 3
  have : gdB (tkN c a b) (inR (rvG (tkN c a b) [] a b) a b) now = false := by
    cases h : tkN c a b with
    | none => rfl
    | some k =>
      have h1 : inR (rvG (some k) [] a b) a b = true := inR_iff.2 (List.mem_cons_self ..)
      rw [h1]
      rfl
  rw [this]
  rfl
/-- The second message's outcome, with letters. -/
theorem between_out (c : List Tn) (s t nn P : ByteArray) (now : Int) (rv : Bool) (hP : (⟨(wnB (tkN c s t) s t nn).toArray⟩ : ByteArray) = P) :
    ∃ (kn : Bool) (k' n' : Int) (s' : Sk), kn = (gdB (tkN c s t) (inR [] s t) now && !rv && !P.toList.isEmpty) ∧ (kn = true → k' = 4) ∧ (kn = false → k' = 5 ∧ 0 < n') ∧ knS s' = kn ∧
      hsM (ckF c (if rv = true then rvG (tkN c s t) [] s t else [])) (.ask s t nn) ⟨3, P, eS, 0, 0⟩ now eS = ⟨k', eS, eS, n', 0⟩ ∧ hsS (ckF c (if rv = true then rvG (tkN c s t) [] s t else [])) (.ask s t nn) ⟨3, P, eS, 0, 0⟩ now eS = s' := by
  cases rv with
  | true =>
    have h3 : ckF c (rvG (tkN c s t) [] s t) s t nn P now = 3 := gone_ck
    refine ⟨false, 5, 3, .no, by simp, (fun h => by cases h), (fun _ => ⟨rfl, by decide⟩), rfl, ?_, ?_⟩
    · show (if ckF c (rvG (tkN c s t) [] s t) s t nn P now = 0 then (⟨4, eS, eS, 0, 0⟩ : Mg) else ⟨5, eS, eS, ckF c (rvG (tkN c s t) [] s t) s t nn P now, 0⟩) = _
      rw [h3]; rfl
    · show (if ckF c (rvG (tkN c s t) [] s t) s t nn P now = 0 then Sk.known s else .no) = _
      rw [h3]; rfl
  | false =>
    by_cases h0 : ckF c [] s t nn P now = 0
    · have h1 := (between_ck hP).1 h0
      refine ⟨true, 4, 0, .known s, ?_, (fun _ => rfl), (fun h => by cases h), rfl, ?_, ?_⟩
      · rw [h1.1]
        cases hq : P.toList with
        | nil => exact absurd hq h1.2
        | cons x r => rfl
      · exact if_pos h0
      · exact if_pos h0
    · refine ⟨false, 5, ckF c [] s t nn P now, .no, ?_, (fun h => by cases h), (fun _ => ⟨rfl, ?_⟩), rfl, ?_, ?_⟩
      · symm
        have h1 : ¬ (gdB (tkN c s t) (inR [] s t) now = true ∧ P.toList ≠ []) := fun h => h0 ((between_ck hP).2 h)
        cases hg : gdB (tkN c s t) (inR [] s t) now with
        | false => rfl
        | true =>
          rw [hg] at h1
          cases hq : P.toList with
          | nil => rfl
          | cons x r => exact absurd ⟨rfl, by rw [hq]; simp⟩ h1
      · rcases ck_vals (gdB (tkN c s t) (inR [] s t) now) (wnB (tkN c s t) s t nn) P with h | h | h
        · exact absurd h h0
        · show 0 < ckI _ _ _; rw [h]; decide
        · show 0 < ckI _ _ _; rw [h]; decide
      · exact if_neg h0
      · exact if_neg h0

set_option maxRecDepth 100000 in
set_option maxHeartbeats 16000000 in
theorem walk_ShakeBetween (x : Cv) (s t nn : ByteArray) (now : Int) (rv : Bool) (w : World) (h : InCf w x) (hs : s.size ≤ 140737488355328) (ht : t.size ≤ 140737488355328) (hnn : nn.size ≤ 140737488355328) (wn : (Lit.int .i64 now).wf = true) (hG : Gl w) :
    Calls Tryd.prog 6 #[.agg (ccs x), .string s, .string t, .string nn, .int .i64 now, .bool rv] w fun e w' => e = .returned (.bool true) ∧ Below w.heap.size w w' := by
  have HGR := Lib.hid (fun u (hu : Below w.heap.size w u) => great_ok x u (h.on hu))
  have HN0 := Lib.hid (fun (hc : cfgB x.cg = false) => vnew_no h.rc hc)
  have HN1 := Lib.hid (fun (hc : cfgB x.cg = true) => vnew_yes h.rc hc)
  have HCF := Lib.hid (fun (hc : cfgB x.cg = true) => show ∃ cg : Cg, cfgB cg = true ∧ x.cg.tens = cg.tens from ⟨x.cg, hc, rfl⟩)
  obtain ⟨C, hC⟩ : ∃ C, cfgB x.cg = C := ⟨_, rfl⟩
  simp only [hC] at HN0 HN1 HCF
  obtain ⟨tn, htn⟩ : ∃ tn, x.cg.tens = tn := ⟨_, rfl⟩
  rw [htn] at HN1 HCF
  obtain ⟨a0, a1, a2, a3, ts, A, c⟩ := x
  obtain ⟨n, hn⟩ : ∃ n, ts.length = n := ⟨_, rfl⟩
  simp only [ccs, hn] at HGR HN0 HN1 ⊢
  have HX := Lib.hid (show Bx w w.heap.size 24 #[.int .i64 a0, .int .i64 a1, .int .i64 a2, .int .i64 a3, .slice A n c] (w.alloc (.cells #[.int .i64 a0, .int .i64 a1, .int .i64 a2, .int .i64 a3, .slice A n c] 24)) from Bx.new w _ _)
  have HG := Lib.hid hG
  clear h hn hC htn hG
  obtain ⟨m, hm⟩ : ∃ m : Nat, (s.size : Int) + (t.size : Int) = (m : Int) := ⟨s.size + t.size, by omega⟩
  have hm47 : m ≤ 281474976710656 := by omega
  have HM := Lib.hid (show m = s.size + t.size by omega)
  go_enter Tryd.func6, Tryd.ntmps6
  go_upto_region 2 with (go_at_call 8; refine (shead_ok _ (HG.out.below HX.out.l HG.out.size)).mono ?_; rintro e u1 ⟨rfl, hb⟩; have HX1 := Lib.hid (HX.out.on hb); clear hb)
  obtain ⟨g0, hg0⟩ : ∃ g, w.heap.size = g := ⟨_, rfl⟩
  have HG0 := Lib.hid hg0
  rw [hg0] at HX1 ⊢
  clear hg0
  have e0 : u1.cell? ⟨g0, 0, none⟩ = some (.int .i64 a0) := HX1.out.b.cell 0
  have e1 : u1.cell? ⟨g0, 1, none⟩ = some (.int .i64 a1) := HX1.out.b.cell 1
  have e2 : u1.cell? ⟨g0, 2, none⟩ = some (.int .i64 a2) := HX1.out.b.cell 2
  have e3 : u1.cell? ⟨g0, 3, none⟩ = some (.int .i64 a3) := HX1.out.b.cell 3
  have e4 : u1.cell? ⟨g0, 4, none⟩ = some (.slice A n c) := HX1.out.b.cell 4
  cases C with
  | false =>
    go_wp2_with (go_at_call 9; (with_reducible refine (HN0.out (by first | rfl | trivial) _ HX1.out.l).mono ?_); rintro e u2 ⟨rfl, hb⟩; have HX2 := Lib.hid (HX1.out.on hb); clear hb)
    go_ret
    exact ⟨rfl, HX2.out.l⟩
  | true =>
    go_upto_region 3 with (go_at_call 9; (with_reducible refine (HN1.out (by first | rfl | trivial) _ HX1.out.l [(g0, 24, #[.int .i64 a0, .int .i64 a1, .int .i64 a2, .int .i64 a3, .slice A n c])] (fun b hb => by obtain rfl := List.mem_singleton.1 hb; exact HX1.out.b)).mono ?_); rintro e u2 ⟨v, mb, rfl, hv, _, _, hbb⟩; have HV2 := Lib.hid hv; have HBB2 := Lib.hid hbb; clear hv hbb)
    clear e0 e1 e2 e3 e4
    have HSB := Lib.hid (show Sb w u2 v mb tn from ⟨HV2.out.less (fun b hb => absurd hb List.not_mem_nil), HCF.out (by first | rfl | trivial)⟩)
    have HMV := Lib.hid (show Mv u2 mb [] from HV2.out.va.mp)
    have e0 : u2.cell? ⟨g0, 0, none⟩ = some (.int .i64 a0) := HV2.out.head.cell 0
    have e1 : u2.cell? ⟨g0, 1, none⟩ = some (.int .i64 a1) := HV2.out.head.cell 1
    have e2 : u2.cell? ⟨g0, 2, none⟩ = some (.int .i64 a2) := HV2.out.head.cell 2
    have e3 : u2.cell? ⟨g0, 3, none⟩ = some (.int .i64 a3) := HV2.out.head.cell 3
    have e4 : u2.cell? ⟨g0, 4, none⟩ = some (.slice A n c) := HV2.out.head.cell 4
    by_cases hm1 : m ≤ 1000
    rotate_left
    · have hm2 : (1000 : Int) < (m : Int) := by omega
      have hm3 : (m : Int) > 1000 := by omega
      go_wp2_with (go_at_call 10; (with_reducible refine (HGR.out _ HV2.out.l).mono ?_); rintro e u3 ⟨gr, rfl, _, hb⟩; have HV3 := Lib.hid (HV2.out.on hb); have HK3 := Lib.hid (show Ke [mb] u2 u3 from (Ke.of hb).nil); have HM3 := Lib.hid (show Mv u3 mb [] from HMV.out.ke (Ke.of hb) (by simp)); clear hb; cases gr)
      all_goals go_ret
      all_goals exact ⟨rfl, HV3.out.l⟩
    · have hm2 : ¬ (1000 : Int) < (m : Int) := by omega
      have hm3 : ¬ (m : Int) > 1000 := by omega
      by_cases hn1 : nn.size ≤ 64
      rotate_left
      · have hn2 : decide ((64 : Int) < (nn.size : Int)) = true := decide_eq_true (by omega)
        go_wp2_with (go_at_call 10; (with_reducible refine (HGR.out _ HV2.out.l).mono ?_); rintro e u3 ⟨gr, rfl, _, hb⟩; have HV3 := Lib.hid (HV2.out.on hb); have HK3 := Lib.hid (show Ke [mb] u2 u3 from (Ke.of hb).nil); have HM3 := Lib.hid (show Mv u3 mb [] from HMV.out.ke (Ke.of hb) (by simp)); clear hb; cases gr)
        all_goals go_ret
        all_goals exact ⟨rfl, HV3.out.l⟩
      have hn2 : decide ((64 : Int) < (nn.size : Int)) = false := decide_eq_false (by omega)
      have HNN := Lib.hid hn1
      go_upto_region 5 with (go_at_call 10; (with_reducible refine (HGR.out _ HV2.out.l).mono ?_); rintro e u3 ⟨gr, rfl, _, hb⟩; have HV3 := Lib.hid (HV2.out.on hb); have HK3 := Lib.hid (show Ke [mb] u2 u3 from (Ke.of hb).nil); have HM3 := Lib.hid (show Mv u3 mb [] from HMV.out.ke (Ke.of hb) (by simp)); clear hb; cases gr)
      any_goals (go_ret; exact ⟨rfl, HV3.out.l⟩)
      clear e0 e1 e2 e3 e4 hm2 hm3 hn2
      go_upto_region 6 with (go_at_call 12; (with_reducible refine (ss_new HSB.out [] HK3.out HM3.out (fun y hy => absurd hy List.not_mem_nil)).mono ?_); rintro e u4 ⟨rfl, hs⟩; have HS4 := Lib.hid hs; clear hs)
      obtain ⟨sb, hsb⟩ : ∃ sb, u3.heap.size = sb := ⟨_, rfl⟩
      rw [hsb] at HS4 ⊢
      clear hsb
      have HZ := Lib.hid (show s.size ≤ 1000 ∧ t.size ≤ 1000 by have := HM.out; omega)
      obtain ⟨P, hP⟩ : ∃ P : ByteArray, (⟨(wnB (tkN tn s t) s t nn).toArray⟩ : ByteArray) = P := ⟨_, rfl⟩
      have HPZ := Lib.hid (show P.size ≤ 1099511627776 by
        have h1 := want_nil hP
        have h2 : P.data.toList.length = P.size := rfl
        rw [h1] at h2
        have h3 := wnB_len (tkN tn s t) s t nn
        omega)
      obtain ⟨kn, k', n', s', hkn, hk4, hk5, hks, eM, eS'⟩ := between_out tn s t nn P now rv hP
      obtain ⟨gd, hgd⟩ : ∃ gd, gdB (tkN tn s t) (inR [] s t) now = gd := ⟨_, rfl⟩
      rw [hgd] at hkn
      have HWA := Lib.hid (show ∀ L u, Ss u2 mb [] sb v .new L u → Calls Tryd.prog 16 #[.pointer (some ⟨v, 0, none⟩), .string s, .string t, .string nn] u fun e u' => e = .returned (.string P) ∧ Ss u2 mb [] sb v .new L u' from fun L u hu => by rw [← hP]; exact ss_want HSB.out HG.out hu s t nn (by have := HNN.out; omega))
      have HGO := Lib.hid (show ∀ L u, Ss u2 mb [] sb v .new L u → Calls Tryd.prog 15 #[.pointer (some ⟨v, 0, none⟩), .string s, .string t, .int .i64 now] u fun e u' => e = .returned (.bool gd) ∧ Ss u2 mb [] sb v .new L u' from fun L u hu => by rw [← hgd]; exact ss_good HSB.out hu s t now)
      have HH1 := Lib.hid (show ∀ L u, Ss u2 mb [] sb v .new L u → Calls Tryd.prog 13 #[.pointer (some ⟨sb, 0, none⟩), .agg #[.int .i64 1, .string s, .string t, .int .i64 0, .int .i64 0], .int .i64 0, .string nn] u fun e u' => e = .returned (.tuple #[.agg #[.int .i64 2, .string nn, .string ⟨#[]⟩, .int .i64 0, .int .i64 0], .bool true]) ∧ Ss u2 mb [] sb v (.ask s t nn) L u' from fun L u hu => (ss_hear HSB.out HG.out hu ⟨1, s, t, 0, 0⟩ 0 nn (show s.size ≤ 1099511627776 by have := HZ.out; omega) (show t.size ≤ 140737488355328 by have := HZ.out; omega)).mono fun e u' hh => by
        have e1 : hsM (ckF tn []) .new ⟨1, s, t, 0, 0⟩ 0 nn = ⟨2, nn, eS, 0, 0⟩ := by show (⟨2, cutN nn, eS, 0, 0⟩ : Mg) = _; rw [cutN_all HNN.out]
        have e2 : hsS (ckF tn []) .new ⟨1, s, t, 0, 0⟩ 0 nn = .ask s t nn := by show Sk.ask s t (cutN nn) = _; rw [cutN_all HNN.out]
        rw [e1, e2] at hh
        exact hh)
      have HRV := Lib.hid (show ∀ L u, Ss u2 mb [] sb v (.ask s t nn) L u → Calls Tryd.prog 18 #[.pointer (some ⟨v, 0, none⟩), .string s, .string t] u fun e u' => (∃ b : Bool, e = .returned (.bool b)) ∧ Ss u2 mb (rvG (tkN tn s t) [] s t) sb v (.ask s t nn) L u' from fun L u hu => (ss_rev HSB.out hu (by decide) s t).mono fun e u' hh => ⟨⟨_, hh.1⟩, hh.2⟩)
      have HH2 := Lib.hid (show ∀ g, g = (if rv = true then rvG (tkN tn s t) [] s t else []) → ∀ L u, Ss u2 mb g sb v (.ask s t nn) L u → Calls Tryd.prog 13 #[.pointer (some ⟨sb, 0, none⟩), .agg #[.int .i64 3, .string P, .string ⟨#[]⟩, .int .i64 0, .int .i64 0], .int .i64 now, .string ⟨#[]⟩] u fun e u' => e = .returned (.tuple #[.agg #[.int .i64 k', .string ⟨#[]⟩, .string ⟨#[]⟩, .int .i64 n', .int .i64 0], .bool true]) ∧ Ss u2 mb g sb v s' L u' from fun g hg L u hu => (ss_hear HSB.out HG.out hu ⟨3, P, eS, 0, 0⟩ now eS HPZ.out (show eS.size ≤ 140737488355328 by decide)).mono fun e u' hh => by
        rw [hg] at hh
        rw [eM, eS'] at hh
        rw [hg]
        exact hh)
      have HWH := Lib.hid (show ∀ g L u, Ss u2 mb g sb v s' L u → Calls Tryd.prog 14 #[.pointer (some ⟨sb, 0, none⟩)] u fun e u' => e = .returned (.tuple #[.string (whS s'), .bool kn]) ∧ Ss u2 mb g sb v s' L u' from fun g L u hu => by rw [← hks]; exact ss_who hu)
      obtain ⟨g', hg'⟩ : ∃ g, rvG (tkN tn s t) [] s t = g := ⟨_, rfl⟩
      simp only [hg'] at HRV HH2
      obtain ⟨wh, hwh⟩ : ∃ z, whS s' = z := ⟨_, rfl⟩
      simp only [hwh] at HWH
      have HKN := Lib.hid hkn
      have HK4 := Lib.hid hk4
      have HK5 := Lib.hid hk5
      clear hP hkn hk4 hk5 hks eM eS' hgd hg' hwh
      go_upto_region 11 with (first
        | (go_at_call 16; (with_reducible refine (HWA.out _ _ HS4.out).mono ?_); rintro e u5 ⟨rfl, hs⟩; have HS5 := Lib.hid hs; clear hs HS4)
        | (go_at_call 15; (with_reducible refine (HGO.out _ _ HS5.out).mono ?_); rintro e u6 ⟨rfl, hs⟩; have HS6 := Lib.hid hs; clear hs HS5)
        | (go_at_call 13; (with_reducible refine (HH1.out _ _ HS6.out).mono ?_); rintro e u7 ⟨rfl, hs⟩; have HS7 := Lib.hid hs; clear hs HS6))
      have HY7 := Lib.hid (HS7.out.new 34 #[.int .i64 2, .string nn, .string ⟨#[]⟩, .int .i64 0, .int .i64 0])
      obtain ⟨y7, hy⟩ : ∃ y, u7.alloc (.cells #[.int .i64 2, .string nn, .string ⟨#[]⟩, .int .i64 0, .int .i64 0] 34) = y := ⟨_, rfl⟩
      obtain ⟨g7, hg⟩ : ∃ g, u7.heap.size = g := ⟨_, rfl⟩
      rw [hy, hg] at HY7
      rw [hy] ; rw [hg]
      clear hy hg HS7
      have HEQ := Lib.hid (eqM_same ⟨2, nn, eS, 0, 0⟩)
      have hne : ∀ b : Bool, P.toList.isEmpty = b → (P.toList == []) = b := fun b hb => by rw [← hb]; cases P.toList <;> rfl
      obtain ⟨pe, hpe⟩ : ∃ pe, P.toList.isEmpty = pe := ⟨_, rfl⟩
      have hpe2 := hne pe hpe
      rw [hpe] at HKN
      have HPE := Lib.hid hpe
      have HPE2 := Lib.hid hpe2
      clear hne hpe hpe2
      cases rv with
      | true =>
        obtain rfl : kn = false := by rw [HKN.out]; simp
        obtain ⟨rfl, hn0⟩ := HK5.out rfl
        have hn0' : (0 : Int) < n' := hn0
        have HHA := Lib.hid (HH2.out g' (by simp))
        go_upto_region 14 with (first
          | (go_at_call 18; (with_reducible refine (HRV.out _ _ HY7.out).mono ?_); rintro e u8 ⟨⟨br, rfl⟩, hs⟩; have HS8 := Lib.hid hs; clear hs HY7)
          | (go_at_call 13; (with_reducible refine (HHA.out _ _ HS8.out).mono ?_); rintro e u9 ⟨rfl, hs⟩; have HS9 := Lib.hid hs; clear hs HS8))
        have HY9 := Lib.hid (HS9.out.new 34 #[.int .i64 5, .string ⟨#[]⟩, .string ⟨#[]⟩, .int .i64 n', .int .i64 0])
        obtain ⟨y9, hy⟩ : ∃ y, u9.alloc (.cells #[.int .i64 5, .string ⟨#[]⟩, .string ⟨#[]⟩, .int .i64 n', .int .i64 0] 34) = y := ⟨_, rfl⟩
        obtain ⟨g9, hg⟩ : ∃ g, u9.heap.size = g := ⟨_, rfl⟩
        rw [hy, hg] at HY9
        rw [hy] ; rw [hg]
        clear hy hg HS9
        go_upto_region 15 with (go_at_call 14; (with_reducible refine (HWH.out _ _ _ HY9.out).mono ?_); rintro e u10 ⟨rfl, hs⟩; have HS10 := Lib.hid hs; clear hs HY9)
        have c7_0 : u10.cell? ⟨g7, 0, none⟩ = some (.int .i64 2) := (HS10.out.bk (b := g7) (t := 34) (cs := #[.int .i64 2, .string nn, .string ⟨#[]⟩, .int .i64 0, .int .i64 0]) (by simp)).cell 0
        have c7_1 : u10.cell? ⟨g7, 1, none⟩ = some (.string nn) := (HS10.out.bk (b := g7) (t := 34) (cs := #[.int .i64 2, .string nn, .string ⟨#[]⟩, .int .i64 0, .int .i64 0]) (by simp)).cell 1
        have c7_2 : u10.cell? ⟨g7, 2, none⟩ = some (.string ⟨#[]⟩) := (HS10.out.bk (b := g7) (t := 34) (cs := #[.int .i64 2, .string nn, .string ⟨#[]⟩, .int .i64 0, .int .i64 0]) (by simp)).cell 2
        have c7_3 : u10.cell? ⟨g7, 3, none⟩ = some (.int .i64 0) := (HS10.out.bk (b := g7) (t := 34) (cs := #[.int .i64 2, .string nn, .string ⟨#[]⟩, .int .i64 0, .int .i64 0]) (by simp)).cell 3
        have c7_4 : u10.cell? ⟨g7, 4, none⟩ = some (.int .i64 0) := (HS10.out.bk (b := g7) (t := 34) (cs := #[.int .i64 2, .string nn, .string ⟨#[]⟩, .int .i64 0, .int .i64 0]) (by simp)).cell 4
        have c9_0 : u10.cell? ⟨g9, 0, none⟩ = some (.int .i64 5) := (HS10.out.bk (b := g9) (t := 34) (cs := #[.int .i64 5, .string ⟨#[]⟩, .string ⟨#[]⟩, .int .i64 n', .int .i64 0]) (by simp)).cell 0
        have c9_1 : u10.cell? ⟨g9, 1, none⟩ = some (.string ⟨#[]⟩) := (HS10.out.bk (b := g9) (t := 34) (cs := #[.int .i64 5, .string ⟨#[]⟩, .string ⟨#[]⟩, .int .i64 n', .int .i64 0]) (by simp)).cell 1
        have c9_2 : u10.cell? ⟨g9, 2, none⟩ = some (.string ⟨#[]⟩) := (HS10.out.bk (b := g9) (t := 34) (cs := #[.int .i64 5, .string ⟨#[]⟩, .string ⟨#[]⟩, .int .i64 n', .int .i64 0]) (by simp)).cell 2
        have c9_3 : u10.cell? ⟨g9, 3, none⟩ = some (.int .i64 n') := (HS10.out.bk (b := g9) (t := 34) (cs := #[.int .i64 5, .string ⟨#[]⟩, .string ⟨#[]⟩, .int .i64 n', .int .i64 0]) (by simp)).cell 3
        have c9_4 : u10.cell? ⟨g9, 4, none⟩ = some (.int .i64 0) := (HS10.out.bk (b := g9) (t := 34) (cs := #[.int .i64 5, .string ⟨#[]⟩, .string ⟨#[]⟩, .int .i64 n', .int .i64 0]) (by simp)).cell 4
        cases gd
        all_goals go_wp2_with ((with_reducible refine wpList_eqm ?hw (.tmp 96) (.tmp 98) _ rfl ⟨2, nn, eS, 0, 0⟩ ⟨2, nn, eS, 0, 0⟩ ?hx ?hy ?_); (case hw => kernel_rfl); (case hx => rfl); (case hy => rfl); rw [HEQ.out])
        all_goals go_ret
        all_goals exact ⟨rfl, HSB.out.low HS10.out⟩
      | false =>
        have HHA := Lib.hid (HH2.out [] (by simp))
        go_upto_region 14 with (go_at_call 13; (with_reducible refine (HHA.out _ _ HY7.out).mono ?_); rintro e u9 ⟨rfl, hs⟩; have HS9 := Lib.hid hs; clear hs HY7)
        have HY9 := Lib.hid (HS9.out.new 34 #[.int .i64 k', .string ⟨#[]⟩, .string ⟨#[]⟩, .int .i64 n', .int .i64 0])
        obtain ⟨y9, hy⟩ : ∃ y, u9.alloc (.cells #[.int .i64 k', .string ⟨#[]⟩, .string ⟨#[]⟩, .int .i64 n', .int .i64 0] 34) = y := ⟨_, rfl⟩
        obtain ⟨g9, hg⟩ : ∃ g, u9.heap.size = g := ⟨_, rfl⟩
        rw [hy, hg] at HY9
        rw [hy] ; rw [hg]
        clear hy hg HS9
        go_upto_region 15 with (go_at_call 14; (with_reducible refine (HWH.out _ _ _ HY9.out).mono ?_); rintro e u10 ⟨rfl, hs⟩; have HS10 := Lib.hid hs; clear hs HY9)
        cases gd <;> cases pe
        case true.false =>
          obtain rfl : kn = true := HKN.out
          obtain rfl := HK4.out rfl
          have hpe := HPE.out
          have hpe2 := HPE2.out
          have c7_0 : u10.cell? ⟨g7, 0, none⟩ = some (.int .i64 2) := (HS10.out.bk (b := g7) (t := 34) (cs := #[.int .i64 2, .string nn, .string ⟨#[]⟩, .int .i64 0, .int .i64 0]) (by simp)).cell 0
          have c7_1 : u10.cell? ⟨g7, 1, none⟩ = some (.string nn) := (HS10.out.bk (b := g7) (t := 34) (cs := #[.int .i64 2, .string nn, .string ⟨#[]⟩, .int .i64 0, .int .i64 0]) (by simp)).cell 1
          have c7_2 : u10.cell? ⟨g7, 2, none⟩ = some (.string ⟨#[]⟩) := (HS10.out.bk (b := g7) (t := 34) (cs := #[.int .i64 2, .string nn, .string ⟨#[]⟩, .int .i64 0, .int .i64 0]) (by simp)).cell 2
          have c7_3 : u10.cell? ⟨g7, 3, none⟩ = some (.int .i64 0) := (HS10.out.bk (b := g7) (t := 34) (cs := #[.int .i64 2, .string nn, .string ⟨#[]⟩, .int .i64 0, .int .i64 0]) (by simp)).cell 3
          have c7_4 : u10.cell? ⟨g7, 4, none⟩ = some (.int .i64 0) := (HS10.out.bk (b := g7) (t := 34) (cs := #[.int .i64 2, .string nn, .string ⟨#[]⟩, .int .i64 0, .int .i64 0]) (by simp)).cell 4
          have c9_0 : u10.cell? ⟨g9, 0, none⟩ = some (.int .i64 4) := (HS10.out.bk (b := g9) (t := 34) (cs := #[.int .i64 4, .string ⟨#[]⟩, .string ⟨#[]⟩, .int .i64 n', .int .i64 0]) (by simp)).cell 0
          have c9_1 : u10.cell? ⟨g9, 1, none⟩ = some (.string ⟨#[]⟩) := (HS10.out.bk (b := g9) (t := 34) (cs := #[.int .i64 4, .string ⟨#[]⟩, .string ⟨#[]⟩, .int .i64 n', .int .i64 0]) (by simp)).cell 1
          have c9_2 : u10.cell? ⟨g9, 2, none⟩ = some (.string ⟨#[]⟩) := (HS10.out.bk (b := g9) (t := 34) (cs := #[.int .i64 4, .string ⟨#[]⟩, .string ⟨#[]⟩, .int .i64 n', .int .i64 0]) (by simp)).cell 2
          have c9_3 : u10.cell? ⟨g9, 3, none⟩ = some (.int .i64 n') := (HS10.out.bk (b := g9) (t := 34) (cs := #[.int .i64 4, .string ⟨#[]⟩, .string ⟨#[]⟩, .int .i64 n', .int .i64 0]) (by simp)).cell 3
          have c9_4 : u10.cell? ⟨g9, 4, none⟩ = some (.int .i64 0) := (HS10.out.bk (b := g9) (t := 34) (cs := #[.int .i64 4, .string ⟨#[]⟩, .string ⟨#[]⟩, .int .i64 n', .int .i64 0]) (by simp)).cell 4
          go_wp2_with ((with_reducible refine wpList_eqm ?hw (.tmp 96) (.tmp 98) _ rfl ⟨2, nn, eS, 0, 0⟩ ⟨2, nn, eS, 0, 0⟩ ?hx ?hy ?_); (case hw => kernel_rfl); (case hx => rfl); (case hy => rfl); rw [HEQ.out])
          go_ret
          exact ⟨rfl, HSB.out.low HS10.out⟩
        all_goals
          obtain rfl : kn = false := HKN.out
          obtain ⟨rfl, hn0⟩ := HK5.out rfl
          have hn0' : (0 : Int) < n' := hn0
          have hpe := HPE.out
          have hpe2 := HPE2.out
          have c7_0 : u10.cell? ⟨g7, 0, none⟩ = some (.int .i64 2) := (HS10.out.bk (b := g7) (t := 34) (cs := #[.int .i64 2, .string nn, .string ⟨#[]⟩, .int .i64 0, .int .i64 0]) (by simp)).cell 0
          have c7_1 : u10.cell? ⟨g7, 1, none⟩ = some (.string nn) := (HS10.out.bk (b := g7) (t := 34) (cs := #[.int .i64 2, .string nn, .string ⟨#[]⟩, .int .i64 0, .int .i64 0]) (by simp)).cell 1
          have c7_2 : u10.cell? ⟨g7, 2, none⟩ = some (.string ⟨#[]⟩) := (HS10.out.bk (b := g7) (t := 34) (cs := #[.int .i64 2, .string nn, .string ⟨#[]⟩, .int .i64 0, .int .i64 0]) (by simp)).cell 2
          have c7_3 : u10.cell? ⟨g7, 3, none⟩ = some (.int .i64 0) := (HS10.out.bk (b := g7) (t := 34) (cs := #[.int .i64 2, .string nn, .string ⟨#[]⟩, .int .i64 0, .int .i64 0]) (by simp)).cell 3
          have c7_4 : u10.cell? ⟨g7, 4, none⟩ = some (.int .i64 0) := (HS10.out.bk (b := g7) (t := 34) (cs := #[.int .i64 2, .string nn, .string ⟨#[]⟩, .int .i64 0, .int .i64 0]) (by simp)).cell 4
          have c9_0 : u10.cell? ⟨g9, 0, none⟩ = some (.int .i64 5) := (HS10.out.bk (b := g9) (t := 34) (cs := #[.int .i64 5, .string ⟨#[]⟩, .string ⟨#[]⟩, .int .i64 n', .int .i64 0]) (by simp)).cell 0
          have c9_1 : u10.cell? ⟨g9, 1, none⟩ = some (.string ⟨#[]⟩) := (HS10.out.bk (b := g9) (t := 34) (cs := #[.int .i64 5, .string ⟨#[]⟩, .string ⟨#[]⟩, .int .i64 n', .int .i64 0]) (by simp)).cell 1
          have c9_2 : u10.cell? ⟨g9, 2, none⟩ = some (.string ⟨#[]⟩) := (HS10.out.bk (b := g9) (t := 34) (cs := #[.int .i64 5, .string ⟨#[]⟩, .string ⟨#[]⟩, .int .i64 n', .int .i64 0]) (by simp)).cell 2
          have c9_3 : u10.cell? ⟨g9, 3, none⟩ = some (.int .i64 n') := (HS10.out.bk (b := g9) (t := 34) (cs := #[.int .i64 5, .string ⟨#[]⟩, .string ⟨#[]⟩, .int .i64 n', .int .i64 0]) (by simp)).cell 3
          have c9_4 : u10.cell? ⟨g9, 4, none⟩ = some (.int .i64 0) := (HS10.out.bk (b := g9) (t := 34) (cs := #[.int .i64 5, .string ⟨#[]⟩, .string ⟨#[]⟩, .int .i64 n', .int .i64 0]) (by simp)).cell 4
          go_wp2_with ((with_reducible refine wpList_eqm ?hw (.tmp 96) (.tmp 98) _ rfl ⟨2, nn, eS, 0, 0⟩ ⟨2, nn, eS, 0, 0⟩ ?hx ?hy ?_); (case hw => kernel_rfl); (case hx => rfl); (case hy => rfl); rw [HEQ.out])
          go_ret
          exact ⟨rfl, HSB.out.low HS10.out⟩
end Go.Proofs.YtekobdmlgbffnaaDoor
