/- The document's own: Put: its contract. (Written by gen_wrefp.py.) -/
import Derived.Test.YtimhjmeebahdaaaDoorWRef2
import Derived.Test.YtimhjmeebahdaaaDoorRef
import Derived.Test.YtimhjmeebahdaaaDoorAppOp
import Derived.Test.YtimhjmeebahdaaaDoorBytesAt
namespace Go.Proofs.YtimhjmeebahdaaaDoor
set_option linter.unusedVariables false
set_option linter.unusedSimpArgs false
open Go.RowKit

theorem OB.none_ {w : World} {B : Nat} {e : TypeId} {A : Option Addr} {c : Nat} {l : List UInt8} (h : OB w B e A c l) (hA : A = none) : l.length = 0 ∧ c = 0 := by
  subst hA
  rcases h.2 with ⟨hv, _⟩ | ⟨g, cap, cur, hv, _⟩
  · injection hv with _ h2 h3
    exact ⟨h2, h3⟩
  · injection hv with h1
    cases h1
theorem Mq.on2 {B : Nat} {w u u' : World} {x : Mg} (H : Mq B w B x u) (hb : Below (B + 1) u u') : Mq B w B x u' :=
  ⟨H.row.below hb (by omega), H.b.trans (hb.mono (by omega))⟩

set_option maxRecDepth 100000 in
set_option maxHeartbeats 8000000 in
theorem rwput_ok (x : Mg) (w : World) (ha : x.a.size ≤ 140737488355328) (hb : x.b.size ≤ 140737488355328) :
    Calls Tryd.prog 16 #[.agg x.cells] w fun e w' => ∃ A c, e = .returned (.slice A (putW x).length c) ∧ OB w' w.heap.size 5 A c (putW x) ∧ Below w.heap.size w w' := by
  have H := Lib.hid (Mq.new (B := w.heap.size) (w := w) (x := x) rfl)
  have HR := Lib.hid (fun u => rright_ok x u ha hb)
  cases hr : rightM x with
  | false =>
    rw [putW_none x hr]
    rw [hr] at HR
    clear hr
    obtain ⟨k, a, b, n, m⟩ := x
    have cs := H.out.c
    go_enter Tryd.func16, Tryd.ntmps16
    go_wp2_with fail
    refine (HR.out _).mono ?_
    rintro e w2 ⟨rfl, hb2⟩
    have HB := Lib.hid (H.out.on hb2 (Nat.le_refl _)).b
    go_wp2
    go_ret
    exact ⟨none, 0, rfl, OB.nil _ _ _, HB.out⟩
  | true =>
    rw [put_right x hr]
    obtain ⟨hkn, _, ha6, hb6, hn6, hm6⟩ := right_parts x hr
    obtain ⟨hk1, hk2, hk3⟩ := known_lt x hkn
    rw [hr] at HR
    have hl := lts x.k
    have HHAS := Lib.hid (fun u => rhas_ok x.k u)
    obtain ⟨s, hs⟩ : ∃ s, ltB x.k = s := ⟨_, rfl⟩
    rw [hs] at hl HHAS
    rw [hkn] at hl
    obtain ⟨k, a, b, n, m⟩ := x
    simp only at hkn ha6 hb6 hn6 hm6 hk1 hk2 hk3 ha hb hl
    obtain ⟨q, rfl⟩ : ∃ q : Nat, k = (q : Int) := ⟨k.toNat, hk3.symm⟩
    obtain ⟨n, rfl⟩ : ∃ n' : Nat, n = (n' : Int) := ⟨n.toNat, by omega⟩
    obtain ⟨m, rfl⟩ : ∃ m' : Nat, m = (m' : Int) := ⟨m.toNat, by omega⟩
    have hq : q < 15 := by have := hk2; omega
    have hA := hl.a rfl
    have hB := hl.b rfl
    have hN := hl.n rfl
    have hM := hl.m rfl
    simp only [Int.toNat_natCast] at hA hB hN hM
    have HT0 := Lib.hid (fun u => rtext_ok a u (by omega))
    have HT1 := Lib.hid (fun u => rtext_ok b u (by omega))
    have HT2 := Lib.hid (fun u => rput_ok n u (by omega))
    have HT3 := Lib.hid (fun u => rput_ok m u (by omega))
    have HK8 := Lib.hid (fun (wx : World) (hx : w.heap.size + 1 ≤ wx.heap.size) => OB.one (w := wx) (B := w.heap.size + 1) (t := 5) (c := UInt8.ofNat q) (v := (q : Int)) hx (by rw [UInt8.toNat_ofNat', Nat.mod_eq_of_lt (by omega)]))
    have HLEN := Lib.hid (show ∀ j, j ≤ 4 → (bodyW ⟨q, a, b, n, m⟩ j).length ≤ 400 from body_len _ (by simpa using ha6) (by simpa using hb6) (by simp; omega) (by simp; omega))
    have HPL := Lib.hid (show ∀ j, (pieceW ⟨q, a, b, n, m⟩ j).length ≤ 65 from piece_len _ (by simpa using ha6) (by simpa using hb6) (by simp; omega) (by simp; omega))
    obtain ⟨BW, hBW⟩ : ∃ BW, bodyW ⟨q, a, b, n, m⟩ = BW := ⟨_, rfl⟩
    have HB0 := Lib.hid (show BW 0 = [] by rw [← hBW]; rfl)
    have HBS := Lib.hid (show ∀ j, BW (j + 1) = BW j ++ if hasK q j = true then pieceW ⟨q, a, b, n, m⟩ j else [] by intro j; rw [← hBW]; rfl)
    rw [hBW] at HLEN ⊢
    have hkq : ((q : Int).toNat) = q := rfl
    rw [hkq]
    obtain ⟨h0, e0⟩ : ∃ h0, hasK q 0 = h0 := ⟨_, rfl⟩
    obtain ⟨h1, e1⟩ : ∃ h1, hasK q 1 = h1 := ⟨_, rfl⟩
    obtain ⟨h2, e2⟩ : ∃ h2, hasK q 2 = h2 := ⟨_, rfl⟩
    obtain ⟨h3, e3⟩ : ∃ h3, hasK q 3 = h3 := ⟨_, rfl⟩
    have HS0 := Lib.hid (show BW 1 = BW 0 ++ if h0 = true then textB a else [] by rw [← e0]; exact HBS.out 0)
    have HS1 := Lib.hid (show BW 2 = BW 1 ++ if h1 = true then textB b else [] by rw [← e1]; exact HBS.out 1)
    have HS2 := Lib.hid (show BW 3 = BW 2 ++ if h2 = true then putB n else [] by rw [← e2]; exact HBS.out 2)
    have HS3 := Lib.hid (show BW 4 = BW 3 ++ if h3 = true then putB m else [] by rw [← e3]; exact HBS.out 3)
    have HP0 := Lib.hid (show (textB a).length ≤ 65 from HPL.out 0)
    have HP1 := Lib.hid (show (textB b).length ≤ 65 from HPL.out 1)
    have HP2 := Lib.hid (show (putB n).length ≤ 65 from HPL.out 2)
    have HP3 := Lib.hid (show (putB m).length ≤ 65 from HPL.out 3)
    rw [e0] at hA
    rw [e1] at hB
    rw [e2] at hN
    rw [e3] at hM
    have HO0 := Lib.hid (fun u => of_c s hl.size 65 65 rfl h0 hA u)
    have HO1 := Lib.hid (fun u => of_c s hl.size 66 66 rfl h1 hB u)
    have HO2 := Lib.hid (fun u => of_c s hl.size 78 78 rfl h2 hN u)
    have HO3 := Lib.hid (fun u => of_c s hl.size 77 77 rfl h3 hM u)
    clear hr hkn ha6 hb6 hn6 hm6 hk1 hk2 hk3 ha hb hBW hkq hl hs hA hB hN hM e0 e1 e2 e3 HBS HPL
    have cs := H.out.c
    go_enter Tryd.func16, Tryd.ntmps16
    go_wp2_with fail
    clear cs
    refine (HR.out _).mono ?_
    rintro e w2 ⟨rfl, hb2⟩
    have H2 := Lib.hid (H.out.on hb2 (Nat.le_refl _))
    have hsz2 : w.heap.size + 1 ≤ w2.heap.size := by have := hb2.size; simp only [World.size_alloc] at this; omega
    clear hb2 H HR
    have cs := H2.out.c
    go_wp2_with fail
    clear cs
    refine (HHAS.out _).mono ?_
    rintro e w3 ⟨rfl, hb3⟩
    have H3 := Lib.hid (H2.out.on hb3 (Nat.le_refl _))
    have hsz3 : w.heap.size + 1 ≤ w3.heap.size := Nat.le_trans hsz2 hb3.size
    clear hb3 H2 HHAS hsz2
    have cs := H3.out.c
    go_upto_region 5 with (fail)
    clear cs
    have HO := Lib.hid (HK8.out w3 hsz3)
    have HM := Lib.hid (H3.out.on ((Below.refl w3.heap.size w3).alloc (Nat.le_refl _) (.cells #[.int .u8 (q : Int)] 5)) (Nat.le_refl _))
    clear H3 HK8
    generalize hA0 : (some ⟨w3.heap.size, 0, none⟩ : Option Addr) = A0 at HO ⊢
    generalize w3.alloc (.cells #[.int .u8 (q : Int)] 5) = w4 at HO HM ⊢
    clear hA0 hsz3
    replace HO := Lib.hid (show OB w4 (w.heap.size + 1) 5 A0 1 (UInt8.ofNat q :: BW 0) by rw [HB0.out]; exact HO.out)
    go_wp2_with fail
    refine (HO0.out _).mono ?_
    rintro e u0 ⟨rfl, rfl⟩
    cases h0 with
    | true =>
      simp only [if_true] at HS0
      have cs := HM.out.c
      go_wp2_with fail
      clear cs
      refine (HT0.out _).mono ?_
      rintro e v0 ⟨B0, b0, rfl, ho0, hb0⟩
      have HOs := Lib.hid (HO.out.stay hb0 (Nat.le_refl _))
      have HMs := Lib.hid (HM.out.on hb0 (Nat.le_refl _))
      have hN0 := ho0.none_
      have HRs := Lib.hid ho0.rb
      clear ho0 hb0 HO HM
      go_wp2_with (at_builtin; refine wp_app_any rfl (.tmp 17) (.tmp 20) 24 5 rfl Tryd.underlying24 byInfo (w.heap.size + 1) (UInt8.ofNat q :: BW 0) _ _ _ rfl (by have e0 := congrArg List.length HB0.out; skip; simp only [List.length_append, List.length_cons, List.length_nil, if_true, if_false, Bool.false_eq_true] at *; omega) HOs.out (textB a) _ _ _ _ rfl rfl hN0 HRs.out (by have := HLEN.out 0 (by omega); have := HP0.out; rw [List.length_cons]; omega) (by have := HMs.out.row.lt; omega) ?_; intro A1 c1 w6 ho6 hg6 hb6)
      have HM := Lib.hid (HMs.out.on2 hb6)
      have HO := Lib.hid (show OB w6 (w.heap.size + 1) 5 A1 c1 (UInt8.ofNat q :: BW 1) by rw [HS0.out]; exact ho6)
      clear ho6 hg6 hb6 HOs HMs HRs hN0
      go_wp2_with fail
      refine (HO1.out _).mono ?_
      rintro e u1 ⟨rfl, rfl⟩
      cases h1 with
      | true =>
        simp only [if_true] at HS1
        have cs := HM.out.c
        go_wp2_with fail
        clear cs
        refine (HT1.out _).mono ?_
        rintro e v1 ⟨B1, b1, rfl, ho1, hb1⟩
        have HOs := Lib.hid (HO.out.stay hb1 (Nat.le_refl _))
        have HMs := Lib.hid (HM.out.on hb1 (Nat.le_refl _))
        have hN1 := ho1.none_
        have HRs := Lib.hid ho1.rb
        clear ho1 hb1 HO HM
        go_wp2_with (at_builtin; refine wp_app_any rfl (.tmp 24) (.tmp 27) 24 5 rfl Tryd.underlying24 byInfo (w.heap.size + 1) (UInt8.ofNat q :: BW 1) _ _ _ rfl (by have e0 := congrArg List.length HB0.out; skip; have e1 := congrArg List.length HS0.out; simp only [List.length_append, List.length_cons, List.length_nil, if_true, if_false, Bool.false_eq_true] at *; omega) HOs.out (textB b) _ _ _ _ rfl rfl hN1 HRs.out (by have := HLEN.out 1 (by omega); have := HP1.out; rw [List.length_cons]; omega) (by have := HMs.out.row.lt; omega) ?_; intro A2 c2 w6 ho6 hg6 hb6)
        have HM := Lib.hid (HMs.out.on2 hb6)
        have HO := Lib.hid (show OB w6 (w.heap.size + 1) 5 A2 c2 (UInt8.ofNat q :: BW 2) by rw [HS1.out]; exact ho6)
        clear ho6 hg6 hb6 HOs HMs HRs hN1
        go_wp2_with fail
        refine (HO2.out _).mono ?_
        rintro e u2 ⟨rfl, rfl⟩
        cases h2 with
        | true =>
          simp only [if_true] at HS2
          have cs := HM.out.c
          go_wp2_with fail
          clear cs
          refine (HT2.out _).mono ?_
          rintro e v2 ⟨B2, b2, rfl, ho2, hb2⟩
          have HOs := Lib.hid (HO.out.stay hb2 (Nat.le_refl _))
          have HMs := Lib.hid (HM.out.on hb2 (Nat.le_refl _))
          have hN2 := ho2.none_
          have HRs := Lib.hid ho2.rb
          clear ho2 hb2 HO HM
          go_wp2_with (at_builtin; refine wp_app_any rfl (.tmp 31) (.tmp 34) 24 5 rfl Tryd.underlying24 byInfo (w.heap.size + 1) (UInt8.ofNat q :: BW 2) _ _ _ rfl (by have e0 := congrArg List.length HB0.out; skip; have e1 := congrArg List.length HS0.out; have e2 := congrArg List.length HS1.out; simp only [List.length_append, List.length_cons, List.length_nil, if_true, if_false, Bool.false_eq_true] at *; omega) HOs.out (putB n) _ _ _ _ rfl rfl hN2 HRs.out (by have := HLEN.out 2 (by omega); have := HP2.out; rw [List.length_cons]; omega) (by have := HMs.out.row.lt; omega) ?_; intro A3 c3 w6 ho6 hg6 hb6)
          have HM := Lib.hid (HMs.out.on2 hb6)
          have HO := Lib.hid (show OB w6 (w.heap.size + 1) 5 A3 c3 (UInt8.ofNat q :: BW 3) by rw [HS2.out]; exact ho6)
          clear ho6 hg6 hb6 HOs HMs HRs hN2
          go_wp2_with fail
          refine (HO3.out _).mono ?_
          rintro e u3 ⟨rfl, rfl⟩
          cases h3 with
          | true =>
            simp only [if_true] at HS3
            have cs := HM.out.c
            go_wp2_with fail
            clear cs
            refine (HT3.out _).mono ?_
            rintro e v3 ⟨B3, b3, rfl, ho3, hb3⟩
            have HOs := Lib.hid (HO.out.stay hb3 (Nat.le_refl _))
            have HMs := Lib.hid (HM.out.on hb3 (Nat.le_refl _))
            have hN3 := ho3.none_
            have HRs := Lib.hid ho3.rb
            clear ho3 hb3 HO HM
            go_wp2_with (at_builtin; refine wp_app_any rfl (.tmp 38) (.tmp 41) 24 5 rfl Tryd.underlying24 byInfo (w.heap.size + 1) (UInt8.ofNat q :: BW 3) _ _ _ rfl (by have e0 := congrArg List.length HB0.out; skip; have e1 := congrArg List.length HS0.out; have e2 := congrArg List.length HS1.out; have e3 := congrArg List.length HS2.out; simp only [List.length_append, List.length_cons, List.length_nil, if_true, if_false, Bool.false_eq_true] at *; omega) HOs.out (putB m) _ _ _ _ rfl rfl hN3 HRs.out (by have := HLEN.out 3 (by omega); have := HP3.out; rw [List.length_cons]; omega) (by have := HMs.out.row.lt; omega) ?_; intro A4 c4 w6 ho6 hg6 hb6)
            have HM := Lib.hid (HMs.out.on2 hb6)
            have HO := Lib.hid (show OB w6 (w.heap.size + 1) 5 A4 c4 (UInt8.ofNat q :: BW 4) by rw [HS3.out]; exact ho6)
            clear ho6 hg6 hb6 HOs HMs HRs hN3
            go_wp2_with fail
            go_ret
            refine ⟨A4, c4, ?_, HO.out.low (by omega), HM.out.b⟩
            show Ending.returned (.slice A4 _ c4) = Ending.returned (.slice A4 (UInt8.ofNat q :: BW 4).length c4)
            refine congrArg (fun z => Ending.returned (.slice A4 z c4)) (Eq.symm ?_)
            exact (by have e0 := congrArg List.length HB0.out; skip; have e1 := congrArg List.length HS0.out; have e2 := congrArg List.length HS1.out; have e3 := congrArg List.length HS2.out; have e4 := congrArg List.length HS3.out; simp only [List.length_append, List.length_cons, List.length_nil, if_true, if_false, Bool.false_eq_true] at *; omega)
          | false =>
            simp only [if_false, Bool.false_eq_true, List.append_nil] at HS3
            have HO2 := HO.out
            rw [← HS3.out] at HO2
            clear HO
            have HO := Lib.hid HO2
            clear HO2
            go_wp2_with fail
            go_ret
            refine ⟨A3, c3, ?_, HO.out.low (by omega), HM.out.b⟩
            show Ending.returned (.slice A3 _ c3) = Ending.returned (.slice A3 (UInt8.ofNat q :: BW 4).length c3)
            refine congrArg (fun z => Ending.returned (.slice A3 z c3)) (Eq.symm ?_)
            exact (by have e0 := congrArg List.length HB0.out; skip; have e1 := congrArg List.length HS0.out; have e2 := congrArg List.length HS1.out; have e3 := congrArg List.length HS2.out; have e4 := congrArg List.length HS3.out; simp only [List.length_append, List.length_cons, List.length_nil, if_true, if_false, Bool.false_eq_true] at *; omega)
        | false =>
          simp only [if_false, Bool.false_eq_true, List.append_nil] at HS2
          have HO2 := HO.out
          rw [← HS2.out] at HO2
          clear HO
          have HO := Lib.hid HO2
          clear HO2
          go_wp2_with fail
          refine (HO3.out _).mono ?_
          rintro e u3 ⟨rfl, rfl⟩
          cases h3 with
          | true =>
            simp only [if_true] at HS3
            have cs := HM.out.c
            go_wp2_with fail
            clear cs
            refine (HT3.out _).mono ?_
            rintro e v3 ⟨B3, b3, rfl, ho3, hb3⟩
            have HOs := Lib.hid (HO.out.stay hb3 (Nat.le_refl _))
            have HMs := Lib.hid (HM.out.on hb3 (Nat.le_refl _))
            have hN3 := ho3.none_
            have HRs := Lib.hid ho3.rb
            clear ho3 hb3 HO HM
            go_wp2_with (at_builtin; refine wp_app_any rfl (.tmp 38) (.tmp 41) 24 5 rfl Tryd.underlying24 byInfo (w.heap.size + 1) (UInt8.ofNat q :: BW 3) _ _ _ rfl (by have e0 := congrArg List.length HB0.out; skip; have e1 := congrArg List.length HS0.out; have e2 := congrArg List.length HS1.out; have e3 := congrArg List.length HS2.out; simp only [List.length_append, List.length_cons, List.length_nil, if_true, if_false, Bool.false_eq_true] at *; omega) HOs.out (putB m) _ _ _ _ rfl rfl hN3 HRs.out (by have := HLEN.out 3 (by omega); have := HP3.out; rw [List.length_cons]; omega) (by have := HMs.out.row.lt; omega) ?_; intro A4 c4 w6 ho6 hg6 hb6)
            have HM := Lib.hid (HMs.out.on2 hb6)
            have HO := Lib.hid (show OB w6 (w.heap.size + 1) 5 A4 c4 (UInt8.ofNat q :: BW 4) by rw [HS3.out]; exact ho6)
            clear ho6 hg6 hb6 HOs HMs HRs hN3
            go_wp2_with fail
            go_ret
            refine ⟨A4, c4, ?_, HO.out.low (by omega), HM.out.b⟩
            show Ending.returned (.slice A4 _ c4) = Ending.returned (.slice A4 (UInt8.ofNat q :: BW 4).length c4)
            refine congrArg (fun z => Ending.returned (.slice A4 z c4)) (Eq.symm ?_)
            exact (by have e0 := congrArg List.length HB0.out; skip; have e1 := congrArg List.length HS0.out; have e2 := congrArg List.length HS1.out; have e3 := congrArg List.length HS2.out; have e4 := congrArg List.length HS3.out; simp only [List.length_append, List.length_cons, List.length_nil, if_true, if_false, Bool.false_eq_true] at *; omega)
          | false =>
            simp only [if_false, Bool.false_eq_true, List.append_nil] at HS3
            have HO2 := HO.out
            rw [← HS3.out] at HO2
            clear HO
            have HO := Lib.hid HO2
            clear HO2
            go_wp2_with fail
            go_ret
            refine ⟨A2, c2, ?_, HO.out.low (by omega), HM.out.b⟩
            show Ending.returned (.slice A2 _ c2) = Ending.returned (.slice A2 (UInt8.ofNat q :: BW 4).length c2)
            refine congrArg (fun z => Ending.returned (.slice A2 z c2)) (Eq.symm ?_)
            exact (by have e0 := congrArg List.length HB0.out; skip; have e1 := congrArg List.length HS0.out; have e2 := congrArg List.length HS1.out; have e3 := congrArg List.length HS2.out; have e4 := congrArg List.length HS3.out; simp only [List.length_append, List.length_cons, List.length_nil, if_true, if_false, Bool.false_eq_true] at *; omega)
      | false =>
        simp only [if_false, Bool.false_eq_true, List.append_nil] at HS1
        have HO2 := HO.out
        rw [← HS1.out] at HO2
        clear HO
        have HO := Lib.hid HO2
        clear HO2
        go_wp2_with fail
        refine (HO2.out _).mono ?_
        rintro e u2 ⟨rfl, rfl⟩
        cases h2 with
        | true =>
          simp only [if_true] at HS2
          have cs := HM.out.c
          go_wp2_with fail
          clear cs
          refine (HT2.out _).mono ?_
          rintro e v2 ⟨B2, b2, rfl, ho2, hb2⟩
          have HOs := Lib.hid (HO.out.stay hb2 (Nat.le_refl _))
          have HMs := Lib.hid (HM.out.on hb2 (Nat.le_refl _))
          have hN2 := ho2.none_
          have HRs := Lib.hid ho2.rb
          clear ho2 hb2 HO HM
          go_wp2_with (at_builtin; refine wp_app_any rfl (.tmp 31) (.tmp 34) 24 5 rfl Tryd.underlying24 byInfo (w.heap.size + 1) (UInt8.ofNat q :: BW 2) _ _ _ rfl (by have e0 := congrArg List.length HB0.out; skip; have e1 := congrArg List.length HS0.out; have e2 := congrArg List.length HS1.out; simp only [List.length_append, List.length_cons, List.length_nil, if_true, if_false, Bool.false_eq_true] at *; omega) HOs.out (putB n) _ _ _ _ rfl rfl hN2 HRs.out (by have := HLEN.out 2 (by omega); have := HP2.out; rw [List.length_cons]; omega) (by have := HMs.out.row.lt; omega) ?_; intro A3 c3 w6 ho6 hg6 hb6)
          have HM := Lib.hid (HMs.out.on2 hb6)
          have HO := Lib.hid (show OB w6 (w.heap.size + 1) 5 A3 c3 (UInt8.ofNat q :: BW 3) by rw [HS2.out]; exact ho6)
          clear ho6 hg6 hb6 HOs HMs HRs hN2
          go_wp2_with fail
          refine (HO3.out _).mono ?_
          rintro e u3 ⟨rfl, rfl⟩
          cases h3 with
          | true =>
            simp only [if_true] at HS3
            have cs := HM.out.c
            go_wp2_with fail
            clear cs
            refine (HT3.out _).mono ?_
            rintro e v3 ⟨B3, b3, rfl, ho3, hb3⟩
            have HOs := Lib.hid (HO.out.stay hb3 (Nat.le_refl _))
            have HMs := Lib.hid (HM.out.on hb3 (Nat.le_refl _))
            have hN3 := ho3.none_
            have HRs := Lib.hid ho3.rb
            clear ho3 hb3 HO HM
            go_wp2_with (at_builtin; refine wp_app_any rfl (.tmp 38) (.tmp 41) 24 5 rfl Tryd.underlying24 byInfo (w.heap.size + 1) (UInt8.ofNat q :: BW 3) _ _ _ rfl (by have e0 := congrArg List.length HB0.out; skip; have e1 := congrArg List.length HS0.out; have e2 := congrArg List.length HS1.out; have e3 := congrArg List.length HS2.out; simp only [List.length_append, List.length_cons, List.length_nil, if_true, if_false, Bool.false_eq_true] at *; omega) HOs.out (putB m) _ _ _ _ rfl rfl hN3 HRs.out (by have := HLEN.out 3 (by omega); have := HP3.out; rw [List.length_cons]; omega) (by have := HMs.out.row.lt; omega) ?_; intro A4 c4 w6 ho6 hg6 hb6)
            have HM := Lib.hid (HMs.out.on2 hb6)
            have HO := Lib.hid (show OB w6 (w.heap.size + 1) 5 A4 c4 (UInt8.ofNat q :: BW 4) by rw [HS3.out]; exact ho6)
            clear ho6 hg6 hb6 HOs HMs HRs hN3
            go_wp2_with fail
            go_ret
            refine ⟨A4, c4, ?_, HO.out.low (by omega), HM.out.b⟩
            show Ending.returned (.slice A4 _ c4) = Ending.returned (.slice A4 (UInt8.ofNat q :: BW 4).length c4)
            refine congrArg (fun z => Ending.returned (.slice A4 z c4)) (Eq.symm ?_)
            exact (by have e0 := congrArg List.length HB0.out; skip; have e1 := congrArg List.length HS0.out; have e2 := congrArg List.length HS1.out; have e3 := congrArg List.length HS2.out; have e4 := congrArg List.length HS3.out; simp only [List.length_append, List.length_cons, List.length_nil, if_true, if_false, Bool.false_eq_true] at *; omega)
          | false =>
            simp only [if_false, Bool.false_eq_true, List.append_nil] at HS3
            have HO2 := HO.out
            rw [← HS3.out] at HO2
            clear HO
            have HO := Lib.hid HO2
            clear HO2
            go_wp2_with fail
            go_ret
            refine ⟨A3, c3, ?_, HO.out.low (by omega), HM.out.b⟩
            show Ending.returned (.slice A3 _ c3) = Ending.returned (.slice A3 (UInt8.ofNat q :: BW 4).length c3)
            refine congrArg (fun z => Ending.returned (.slice A3 z c3)) (Eq.symm ?_)
            exact (by have e0 := congrArg List.length HB0.out; skip; have e1 := congrArg List.length HS0.out; have e2 := congrArg List.length HS1.out; have e3 := congrArg List.length HS2.out; have e4 := congrArg List.length HS3.out; simp only [List.length_append, List.length_cons, List.length_nil, if_true, if_false, Bool.false_eq_true] at *; omega)
        | false =>
          simp only [if_false, Bool.false_eq_true, List.append_nil] at HS2
          have HO2 := HO.out
          rw [← HS2.out] at HO2
          clear HO
          have HO := Lib.hid HO2
          clear HO2
          go_wp2_with fail
          refine (HO3.out _).mono ?_
          rintro e u3 ⟨rfl, rfl⟩
          cases h3 with
          | true =>
            simp only [if_true] at HS3
            have cs := HM.out.c
            go_wp2_with fail
            clear cs
            refine (HT3.out _).mono ?_
            rintro e v3 ⟨B3, b3, rfl, ho3, hb3⟩
            have HOs := Lib.hid (HO.out.stay hb3 (Nat.le_refl _))
            have HMs := Lib.hid (HM.out.on hb3 (Nat.le_refl _))
            have hN3 := ho3.none_
            have HRs := Lib.hid ho3.rb
            clear ho3 hb3 HO HM
            go_wp2_with (at_builtin; refine wp_app_any rfl (.tmp 38) (.tmp 41) 24 5 rfl Tryd.underlying24 byInfo (w.heap.size + 1) (UInt8.ofNat q :: BW 3) _ _ _ rfl (by have e0 := congrArg List.length HB0.out; skip; have e1 := congrArg List.length HS0.out; have e2 := congrArg List.length HS1.out; have e3 := congrArg List.length HS2.out; simp only [List.length_append, List.length_cons, List.length_nil, if_true, if_false, Bool.false_eq_true] at *; omega) HOs.out (putB m) _ _ _ _ rfl rfl hN3 HRs.out (by have := HLEN.out 3 (by omega); have := HP3.out; rw [List.length_cons]; omega) (by have := HMs.out.row.lt; omega) ?_; intro A4 c4 w6 ho6 hg6 hb6)
            have HM := Lib.hid (HMs.out.on2 hb6)
            have HO := Lib.hid (show OB w6 (w.heap.size + 1) 5 A4 c4 (UInt8.ofNat q :: BW 4) by rw [HS3.out]; exact ho6)
            clear ho6 hg6 hb6 HOs HMs HRs hN3
            go_wp2_with fail
            go_ret
            refine ⟨A4, c4, ?_, HO.out.low (by omega), HM.out.b⟩
            show Ending.returned (.slice A4 _ c4) = Ending.returned (.slice A4 (UInt8.ofNat q :: BW 4).length c4)
            refine congrArg (fun z => Ending.returned (.slice A4 z c4)) (Eq.symm ?_)
            exact (by have e0 := congrArg List.length HB0.out; skip; have e1 := congrArg List.length HS0.out; have e2 := congrArg List.length HS1.out; have e3 := congrArg List.length HS2.out; have e4 := congrArg List.length HS3.out; simp only [List.length_append, List.length_cons, List.length_nil, if_true, if_false, Bool.false_eq_true] at *; omega)
          | false =>
            simp only [if_false, Bool.false_eq_true, List.append_nil] at HS3
            have HO2 := HO.out
            rw [← HS3.out] at HO2
            clear HO
            have HO := Lib.hid HO2
            clear HO2
            go_wp2_with fail
            go_ret
            refine ⟨A1, c1, ?_, HO.out.low (by omega), HM.out.b⟩
            show Ending.returned (.slice A1 _ c1) = Ending.returned (.slice A1 (UInt8.ofNat q :: BW 4).length c1)
            refine congrArg (fun z => Ending.returned (.slice A1 z c1)) (Eq.symm ?_)
            exact (by have e0 := congrArg List.length HB0.out; skip; have e1 := congrArg List.length HS0.out; have e2 := congrArg List.length HS1.out; have e3 := congrArg List.length HS2.out; have e4 := congrArg List.length HS3.out; simp only [List.length_append, List.length_cons, List.length_nil, if_true, if_false, Bool.false_eq_true] at *; omega)
    | false =>
      simp only [if_false, Bool.false_eq_true, List.append_nil] at HS0
      have HO2 := HO.out
      rw [← HS0.out] at HO2
      clear HO
      have HO := Lib.hid HO2
      clear HO2
      go_wp2_with fail
      refine (HO1.out _).mono ?_
      rintro e u1 ⟨rfl, rfl⟩
      cases h1 with
      | true =>
        simp only [if_true] at HS1
        have cs := HM.out.c
        go_wp2_with fail
        clear cs
        refine (HT1.out _).mono ?_
        rintro e v1 ⟨B1, b1, rfl, ho1, hb1⟩
        have HOs := Lib.hid (HO.out.stay hb1 (Nat.le_refl _))
        have HMs := Lib.hid (HM.out.on hb1 (Nat.le_refl _))
        have hN1 := ho1.none_
        have HRs := Lib.hid ho1.rb
        clear ho1 hb1 HO HM
        go_wp2_with (at_builtin; refine wp_app_any rfl (.tmp 24) (.tmp 27) 24 5 rfl Tryd.underlying24 byInfo (w.heap.size + 1) (UInt8.ofNat q :: BW 1) _ _ _ rfl (by have e0 := congrArg List.length HB0.out; skip; have e1 := congrArg List.length HS0.out; simp only [List.length_append, List.length_cons, List.length_nil, if_true, if_false, Bool.false_eq_true] at *; omega) HOs.out (textB b) _ _ _ _ rfl rfl hN1 HRs.out (by have := HLEN.out 1 (by omega); have := HP1.out; rw [List.length_cons]; omega) (by have := HMs.out.row.lt; omega) ?_; intro A2 c2 w6 ho6 hg6 hb6)
        have HM := Lib.hid (HMs.out.on2 hb6)
        have HO := Lib.hid (show OB w6 (w.heap.size + 1) 5 A2 c2 (UInt8.ofNat q :: BW 2) by rw [HS1.out]; exact ho6)
        clear ho6 hg6 hb6 HOs HMs HRs hN1
        go_wp2_with fail
        refine (HO2.out _).mono ?_
        rintro e u2 ⟨rfl, rfl⟩
        cases h2 with
        | true =>
          simp only [if_true] at HS2
          have cs := HM.out.c
          go_wp2_with fail
          clear cs
          refine (HT2.out _).mono ?_
          rintro e v2 ⟨B2, b2, rfl, ho2, hb2⟩
          have HOs := Lib.hid (HO.out.stay hb2 (Nat.le_refl _))
          have HMs := Lib.hid (HM.out.on hb2 (Nat.le_refl _))
          have hN2 := ho2.none_
          have HRs := Lib.hid ho2.rb
          clear ho2 hb2 HO HM
          go_wp2_with (at_builtin; refine wp_app_any rfl (.tmp 31) (.tmp 34) 24 5 rfl Tryd.underlying24 byInfo (w.heap.size + 1) (UInt8.ofNat q :: BW 2) _ _ _ rfl (by have e0 := congrArg List.length HB0.out; skip; have e1 := congrArg List.length HS0.out; have e2 := congrArg List.length HS1.out; simp only [List.length_append, List.length_cons, List.length_nil, if_true, if_false, Bool.false_eq_true] at *; omega) HOs.out (putB n) _ _ _ _ rfl rfl hN2 HRs.out (by have := HLEN.out 2 (by omega); have := HP2.out; rw [List.length_cons]; omega) (by have := HMs.out.row.lt; omega) ?_; intro A3 c3 w6 ho6 hg6 hb6)
          have HM := Lib.hid (HMs.out.on2 hb6)
          have HO := Lib.hid (show OB w6 (w.heap.size + 1) 5 A3 c3 (UInt8.ofNat q :: BW 3) by rw [HS2.out]; exact ho6)
          clear ho6 hg6 hb6 HOs HMs HRs hN2
          go_wp2_with fail
          refine (HO3.out _).mono ?_
          rintro e u3 ⟨rfl, rfl⟩
          cases h3 with
          | true =>
            simp only [if_true] at HS3
            have cs := HM.out.c
            go_wp2_with fail
            clear cs
            refine (HT3.out _).mono ?_
            rintro e v3 ⟨B3, b3, rfl, ho3, hb3⟩
            have HOs := Lib.hid (HO.out.stay hb3 (Nat.le_refl _))
            have HMs := Lib.hid (HM.out.on hb3 (Nat.le_refl _))
            have hN3 := ho3.none_
            have HRs := Lib.hid ho3.rb
            clear ho3 hb3 HO HM
            go_wp2_with (at_builtin; refine wp_app_any rfl (.tmp 38) (.tmp 41) 24 5 rfl Tryd.underlying24 byInfo (w.heap.size + 1) (UInt8.ofNat q :: BW 3) _ _ _ rfl (by have e0 := congrArg List.length HB0.out; skip; have e1 := congrArg List.length HS0.out; have e2 := congrArg List.length HS1.out; have e3 := congrArg List.length HS2.out; simp only [List.length_append, List.length_cons, List.length_nil, if_true, if_false, Bool.false_eq_true] at *; omega) HOs.out (putB m) _ _ _ _ rfl rfl hN3 HRs.out (by have := HLEN.out 3 (by omega); have := HP3.out; rw [List.length_cons]; omega) (by have := HMs.out.row.lt; omega) ?_; intro A4 c4 w6 ho6 hg6 hb6)
            have HM := Lib.hid (HMs.out.on2 hb6)
            have HO := Lib.hid (show OB w6 (w.heap.size + 1) 5 A4 c4 (UInt8.ofNat q :: BW 4) by rw [HS3.out]; exact ho6)
            clear ho6 hg6 hb6 HOs HMs HRs hN3
            go_wp2_with fail
            go_ret
            refine ⟨A4, c4, ?_, HO.out.low (by omega), HM.out.b⟩
            show Ending.returned (.slice A4 _ c4) = Ending.returned (.slice A4 (UInt8.ofNat q :: BW 4).length c4)
            refine congrArg (fun z => Ending.returned (.slice A4 z c4)) (Eq.symm ?_)
            exact (by have e0 := congrArg List.length HB0.out; skip; have e1 := congrArg List.length HS0.out; have e2 := congrArg List.length HS1.out; have e3 := congrArg List.length HS2.out; have e4 := congrArg List.length HS3.out; simp only [List.length_append, List.length_cons, List.length_nil, if_true, if_false, Bool.false_eq_true] at *; omega)
          | false =>
            simp only [if_false, Bool.false_eq_true, List.append_nil] at HS3
            have HO2 := HO.out
            rw [← HS3.out] at HO2
            clear HO
            have HO := Lib.hid HO2
            clear HO2
            go_wp2_with fail
            go_ret
            refine ⟨A3, c3, ?_, HO.out.low (by omega), HM.out.b⟩
            show Ending.returned (.slice A3 _ c3) = Ending.returned (.slice A3 (UInt8.ofNat q :: BW 4).length c3)
            refine congrArg (fun z => Ending.returned (.slice A3 z c3)) (Eq.symm ?_)
            exact (by have e0 := congrArg List.length HB0.out; skip; have e1 := congrArg List.length HS0.out; have e2 := congrArg List.length HS1.out; have e3 := congrArg List.length HS2.out; have e4 := congrArg List.length HS3.out; simp only [List.length_append, List.length_cons, List.length_nil, if_true, if_false, Bool.false_eq_true] at *; omega)
        | false =>
          simp only [if_false, Bool.false_eq_true, List.append_nil] at HS2
          have HO2 := HO.out
          rw [← HS2.out] at HO2
          clear HO
          have HO := Lib.hid HO2
          clear HO2
          go_wp2_with fail
          refine (HO3.out _).mono ?_
          rintro e u3 ⟨rfl, rfl⟩
          cases h3 with
          | true =>
            simp only [if_true] at HS3
            have cs := HM.out.c
            go_wp2_with fail
            clear cs
            refine (HT3.out _).mono ?_
            rintro e v3 ⟨B3, b3, rfl, ho3, hb3⟩
            have HOs := Lib.hid (HO.out.stay hb3 (Nat.le_refl _))
            have HMs := Lib.hid (HM.out.on hb3 (Nat.le_refl _))
            have hN3 := ho3.none_
            have HRs := Lib.hid ho3.rb
            clear ho3 hb3 HO HM
            go_wp2_with (at_builtin; refine wp_app_any rfl (.tmp 38) (.tmp 41) 24 5 rfl Tryd.underlying24 byInfo (w.heap.size + 1) (UInt8.ofNat q :: BW 3) _ _ _ rfl (by have e0 := congrArg List.length HB0.out; skip; have e1 := congrArg List.length HS0.out; have e2 := congrArg List.length HS1.out; have e3 := congrArg List.length HS2.out; simp only [List.length_append, List.length_cons, List.length_nil, if_true, if_false, Bool.false_eq_true] at *; omega) HOs.out (putB m) _ _ _ _ rfl rfl hN3 HRs.out (by have := HLEN.out 3 (by omega); have := HP3.out; rw [List.length_cons]; omega) (by have := HMs.out.row.lt; omega) ?_; intro A4 c4 w6 ho6 hg6 hb6)
            have HM := Lib.hid (HMs.out.on2 hb6)
            have HO := Lib.hid (show OB w6 (w.heap.size + 1) 5 A4 c4 (UInt8.ofNat q :: BW 4) by rw [HS3.out]; exact ho6)
            clear ho6 hg6 hb6 HOs HMs HRs hN3
            go_wp2_with fail
            go_ret
            refine ⟨A4, c4, ?_, HO.out.low (by omega), HM.out.b⟩
            show Ending.returned (.slice A4 _ c4) = Ending.returned (.slice A4 (UInt8.ofNat q :: BW 4).length c4)
            refine congrArg (fun z => Ending.returned (.slice A4 z c4)) (Eq.symm ?_)
            exact (by have e0 := congrArg List.length HB0.out; skip; have e1 := congrArg List.length HS0.out; have e2 := congrArg List.length HS1.out; have e3 := congrArg List.length HS2.out; have e4 := congrArg List.length HS3.out; simp only [List.length_append, List.length_cons, List.length_nil, if_true, if_false, Bool.false_eq_true] at *; omega)
          | false =>
            simp only [if_false, Bool.false_eq_true, List.append_nil] at HS3
            have HO2 := HO.out
            rw [← HS3.out] at HO2
            clear HO
            have HO := Lib.hid HO2
            clear HO2
            go_wp2_with fail
            go_ret
            refine ⟨A2, c2, ?_, HO.out.low (by omega), HM.out.b⟩
            show Ending.returned (.slice A2 _ c2) = Ending.returned (.slice A2 (UInt8.ofNat q :: BW 4).length c2)
            refine congrArg (fun z => Ending.returned (.slice A2 z c2)) (Eq.symm ?_)
            exact (by have e0 := congrArg List.length HB0.out; skip; have e1 := congrArg List.length HS0.out; have e2 := congrArg List.length HS1.out; have e3 := congrArg List.length HS2.out; have e4 := congrArg List.length HS3.out; simp only [List.length_append, List.length_cons, List.length_nil, if_true, if_false, Bool.false_eq_true] at *; omega)
      | false =>
        simp only [if_false, Bool.false_eq_true, List.append_nil] at HS1
        have HO2 := HO.out
        rw [← HS1.out] at HO2
        clear HO
        have HO := Lib.hid HO2
        clear HO2
        go_wp2_with fail
        refine (HO2.out _).mono ?_
        rintro e u2 ⟨rfl, rfl⟩
        cases h2 with
        | true =>
          simp only [if_true] at HS2
          have cs := HM.out.c
          go_wp2_with fail
          clear cs
          refine (HT2.out _).mono ?_
          rintro e v2 ⟨B2, b2, rfl, ho2, hb2⟩
          have HOs := Lib.hid (HO.out.stay hb2 (Nat.le_refl _))
          have HMs := Lib.hid (HM.out.on hb2 (Nat.le_refl _))
          have hN2 := ho2.none_
          have HRs := Lib.hid ho2.rb
          clear ho2 hb2 HO HM
          go_wp2_with (at_builtin; refine wp_app_any rfl (.tmp 31) (.tmp 34) 24 5 rfl Tryd.underlying24 byInfo (w.heap.size + 1) (UInt8.ofNat q :: BW 2) _ _ _ rfl (by have e0 := congrArg List.length HB0.out; skip; have e1 := congrArg List.length HS0.out; have e2 := congrArg List.length HS1.out; simp only [List.length_append, List.length_cons, List.length_nil, if_true, if_false, Bool.false_eq_true] at *; omega) HOs.out (putB n) _ _ _ _ rfl rfl hN2 HRs.out (by have := HLEN.out 2 (by omega); have := HP2.out; rw [List.length_cons]; omega) (by have := HMs.out.row.lt; omega) ?_; intro A3 c3 w6 ho6 hg6 hb6)
          have HM := Lib.hid (HMs.out.on2 hb6)
          have HO := Lib.hid (show OB w6 (w.heap.size + 1) 5 A3 c3 (UInt8.ofNat q :: BW 3) by rw [HS2.out]; exact ho6)
          clear ho6 hg6 hb6 HOs HMs HRs hN2
          go_wp2_with fail
          refine (HO3.out _).mono ?_
          rintro e u3 ⟨rfl, rfl⟩
          cases h3 with
          | true =>
            simp only [if_true] at HS3
            have cs := HM.out.c
            go_wp2_with fail
            clear cs
            refine (HT3.out _).mono ?_
            rintro e v3 ⟨B3, b3, rfl, ho3, hb3⟩
            have HOs := Lib.hid (HO.out.stay hb3 (Nat.le_refl _))
            have HMs := Lib.hid (HM.out.on hb3 (Nat.le_refl _))
            have hN3 := ho3.none_
            have HRs := Lib.hid ho3.rb
            clear ho3 hb3 HO HM
            go_wp2_with (at_builtin; refine wp_app_any rfl (.tmp 38) (.tmp 41) 24 5 rfl Tryd.underlying24 byInfo (w.heap.size + 1) (UInt8.ofNat q :: BW 3) _ _ _ rfl (by have e0 := congrArg List.length HB0.out; skip; have e1 := congrArg List.length HS0.out; have e2 := congrArg List.length HS1.out; have e3 := congrArg List.length HS2.out; simp only [List.length_append, List.length_cons, List.length_nil, if_true, if_false, Bool.false_eq_true] at *; omega) HOs.out (putB m) _ _ _ _ rfl rfl hN3 HRs.out (by have := HLEN.out 3 (by omega); have := HP3.out; rw [List.length_cons]; omega) (by have := HMs.out.row.lt; omega) ?_; intro A4 c4 w6 ho6 hg6 hb6)
            have HM := Lib.hid (HMs.out.on2 hb6)
            have HO := Lib.hid (show OB w6 (w.heap.size + 1) 5 A4 c4 (UInt8.ofNat q :: BW 4) by rw [HS3.out]; exact ho6)
            clear ho6 hg6 hb6 HOs HMs HRs hN3
            go_wp2_with fail
            go_ret
            refine ⟨A4, c4, ?_, HO.out.low (by omega), HM.out.b⟩
            show Ending.returned (.slice A4 _ c4) = Ending.returned (.slice A4 (UInt8.ofNat q :: BW 4).length c4)
            refine congrArg (fun z => Ending.returned (.slice A4 z c4)) (Eq.symm ?_)
            exact (by have e0 := congrArg List.length HB0.out; skip; have e1 := congrArg List.length HS0.out; have e2 := congrArg List.length HS1.out; have e3 := congrArg List.length HS2.out; have e4 := congrArg List.length HS3.out; simp only [List.length_append, List.length_cons, List.length_nil, if_true, if_false, Bool.false_eq_true] at *; omega)
          | false =>
            simp only [if_false, Bool.false_eq_true, List.append_nil] at HS3
            have HO2 := HO.out
            rw [← HS3.out] at HO2
            clear HO
            have HO := Lib.hid HO2
            clear HO2
            go_wp2_with fail
            go_ret
            refine ⟨A3, c3, ?_, HO.out.low (by omega), HM.out.b⟩
            show Ending.returned (.slice A3 _ c3) = Ending.returned (.slice A3 (UInt8.ofNat q :: BW 4).length c3)
            refine congrArg (fun z => Ending.returned (.slice A3 z c3)) (Eq.symm ?_)
            exact (by have e0 := congrArg List.length HB0.out; skip; have e1 := congrArg List.length HS0.out; have e2 := congrArg List.length HS1.out; have e3 := congrArg List.length HS2.out; have e4 := congrArg List.length HS3.out; simp only [List.length_append, List.length_cons, List.length_nil, if_true, if_false, Bool.false_eq_true] at *; omega)
        | false =>
          simp only [if_false, Bool.false_eq_true, List.append_nil] at HS2
          have HO2 := HO.out
          rw [← HS2.out] at HO2
          clear HO
          have HO := Lib.hid HO2
          clear HO2
          go_wp2_with fail
          refine (HO3.out _).mono ?_
          rintro e u3 ⟨rfl, rfl⟩
          cases h3 with
          | true =>
            simp only [if_true] at HS3
            have cs := HM.out.c
            go_wp2_with fail
            clear cs
            refine (HT3.out _).mono ?_
            rintro e v3 ⟨B3, b3, rfl, ho3, hb3⟩
            have HOs := Lib.hid (HO.out.stay hb3 (Nat.le_refl _))
            have HMs := Lib.hid (HM.out.on hb3 (Nat.le_refl _))
            have hN3 := ho3.none_
            have HRs := Lib.hid ho3.rb
            clear ho3 hb3 HO HM
            go_wp2_with (at_builtin; refine wp_app_any rfl (.tmp 38) (.tmp 41) 24 5 rfl Tryd.underlying24 byInfo (w.heap.size + 1) (UInt8.ofNat q :: BW 3) _ _ _ rfl (by have e0 := congrArg List.length HB0.out; skip; have e1 := congrArg List.length HS0.out; have e2 := congrArg List.length HS1.out; have e3 := congrArg List.length HS2.out; simp only [List.length_append, List.length_cons, List.length_nil, if_true, if_false, Bool.false_eq_true] at *; omega) HOs.out (putB m) _ _ _ _ rfl rfl hN3 HRs.out (by have := HLEN.out 3 (by omega); have := HP3.out; rw [List.length_cons]; omega) (by have := HMs.out.row.lt; omega) ?_; intro A4 c4 w6 ho6 hg6 hb6)
            have HM := Lib.hid (HMs.out.on2 hb6)
            have HO := Lib.hid (show OB w6 (w.heap.size + 1) 5 A4 c4 (UInt8.ofNat q :: BW 4) by rw [HS3.out]; exact ho6)
            clear ho6 hg6 hb6 HOs HMs HRs hN3
            go_wp2_with fail
            go_ret
            refine ⟨A4, c4, ?_, HO.out.low (by omega), HM.out.b⟩
            show Ending.returned (.slice A4 _ c4) = Ending.returned (.slice A4 (UInt8.ofNat q :: BW 4).length c4)
            refine congrArg (fun z => Ending.returned (.slice A4 z c4)) (Eq.symm ?_)
            exact (by have e0 := congrArg List.length HB0.out; skip; have e1 := congrArg List.length HS0.out; have e2 := congrArg List.length HS1.out; have e3 := congrArg List.length HS2.out; have e4 := congrArg List.length HS3.out; simp only [List.length_append, List.length_cons, List.length_nil, if_true, if_false, Bool.false_eq_true] at *; omega)
          | false =>
            simp only [if_false, Bool.false_eq_true, List.append_nil] at HS3
            have HO2 := HO.out
            rw [← HS3.out] at HO2
            clear HO
            have HO := Lib.hid HO2
            clear HO2
            go_wp2_with fail
            go_ret
            refine ⟨A0, 1, ?_, HO.out.low (by omega), HM.out.b⟩
            show Ending.returned (.slice A0 _ 1) = Ending.returned (.slice A0 (UInt8.ofNat q :: BW 4).length 1)
            refine congrArg (fun z => Ending.returned (.slice A0 z 1)) (Eq.symm ?_)
            exact (by have e0 := congrArg List.length HB0.out; skip; have e1 := congrArg List.length HS0.out; have e2 := congrArg List.length HS1.out; have e3 := congrArg List.length HS2.out; have e4 := congrArg List.length HS3.out; simp only [List.length_append, List.length_cons, List.length_nil, if_true, if_false, Bool.false_eq_true] at *; omega)
end Go.Proofs.YtimhjmeebahdaaaDoor
