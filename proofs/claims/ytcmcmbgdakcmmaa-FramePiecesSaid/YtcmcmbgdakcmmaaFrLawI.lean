/- The walk of FramePieces. (Written by gen_frpieces.py.) -/
import Derived.Test.YtcmcmbgdakcmmaaFrHead
import Derived.Test.YtcmcmbgdakcmmaaFrLib2
import Derived.Test.YtcmcmbgdakcmmaaFrR3
import Derived.Test.YtcmcmbgdakcmmaaHere
import Derived.Deep.Cut
namespace Go.Proofs.Ytcmcmbgdakcmmaa
set_option linter.unusedVariables false
set_option linter.unusedSimpArgs false
open Go.RowKit

/-- Where the first k bytes have come: what is cut of them, what is left, what is wrong with it. -/
def PcM (l : List UInt8) (k : Nat) (left : List UInt8) (got : List (List UInt8)) (bad : Nat) : Prop := cutF (l.take k) = got ∧ restF (l.take k) = left ∧ errF left = bad
theorem pc_start (l : List UInt8) : PcM l 0 [] [] 0 := by
  unfold PcM
  rw [List.take_zero]
  exact ⟨rfl, rfl, rfl⟩
theorem pc_step (l : List UInt8) (k q : Nat) (left : List UInt8) (got : List (List UInt8)) (bad : Nat) (h : PcM l k left got bad) :
    PcM l (k + q) (restF (left ++ (l.drop k).take q)) (got ++ cutF (left ++ (l.drop k).take q)) (errF (restF (left ++ (l.drop k).take q))) := by
  obtain ⟨h1, h2, _⟩ := h
  have e : l.take (k + q) = l.take k ++ (l.drop k).take q := List.take_add
  obtain ⟨k1, k2⟩ := cut_more (l.take k) ((l.drop k).take q)
  refine ⟨?_, ?_, rfl⟩
  · rw [e, k1, h1, h2]
  · rw [e, k2, h2]
theorem pc_end (l : List UInt8) (k : Nat) (left : List UInt8) (got : List (List UInt8)) (bad : Nat) (h : PcM l k left got bad) (hk : bad ≠ 0 ∨ l.length ≤ k) : cutF l = got ∧ errF (restF l) = bad := by
  obtain ⟨h1, h2, h3⟩ := h
  rcases hk with hb | hk
  · have hg : begB left = false := by
      cases hb2 : begB left with
      | false => rfl
      | true => rw [err_ok left hb2] at h3; exact absurd h3.symm hb
    rw [← h2] at hg
    obtain ⟨c1, c2⟩ := cut_bad (l.take k) (l.drop k) hg
    rw [List.take_append_drop] at c1 c2
    refine ⟨c1.trans h1, ?_⟩
    rw [err_bad _ c2, ← h3, err_bad left (by rw [← h2]; exact hg)]
  · rw [List.take_of_length_le hk] at h1 h2
    exact ⟨h1, by rw [h2]; exact h3⟩
theorem pc_count (l : List UInt8) (k : Nat) (left : List UInt8) (got : List (List UInt8)) (bad : Nat) (h : PcM l k left got bad) : got.length ≤ k ∧ left.length ≤ k ∧ (bad = 0 ∨ bad = 61) := by
  obtain ⟨h1, h2, h3⟩ := h
  have c1 := cut_count (l.take k)
  have c2 := (cut_is (l.take k)).2.2.2
  rw [List.length_take] at c1 c2
  refine ⟨by rw [← h1]; omega, by rw [← h2]; omega, ?_⟩
  rw [← h3]
  unfold errF
  split
  · exact .inl rfl
  · exact .inr rfl

set_option maxRecDepth 100000 in
set_option maxHeartbeats 8000000 in
theorem walk_FramePieces (A : Option Addr) (l : List UInt8) (n c : Nat) (A' : Option Addr) (l' : List UInt8) (n' c' : Nat) (W : World) (w0 : InB W A l n c) (w1 : InB W A' l' n' c') :
    Calls Try.prog 5 #[.slice A n c, .slice A' n' c'] W fun e w' => e = .returned (.bool true) ∧ Below W.heap.size W w' := by
  have hmx := w0.max
  have hcn := w0.cap
  unfold maxLen at hmx
  have HN := Lib.hid w0.nil_
  have HL := Lib.hid w0.len
  have HL' := Lib.hid w1.len
  have HR := Lib.hid (And.intro w0.rb w1.rb)
  clear w0 w1
  go_enter Try.func5, Try.ntmps5
  go_wp2_with fail
  refine (fhead_ok _).mono ?_
  rintro e w1 ⟨rfl, hb1⟩
  have B1 := Lib.hid hb1
  clear hb1
  by_cases hg : 9000 < n
  · have hg2 : (9000 : Int) < (n : Int) := by omega
    go_wp2_with fail
    go_ret
    exact ⟨rfl, B1.out⟩
  have hg2 : decide ((9000 : Int) < (n : Int)) = false := decide_eq_false (by omega)
  have hn9 : n ≤ 9000 := by omega
  clear hg
  by_cases hg : 300 < n'
  · have hg3 : (300 : Int) < (n' : Int) := by omega
    have hg4 : decide ((300 : Int) < (n' : Int)) = true := decide_eq_true hg3
    go_wp2_with fail
    go_ret
    exact ⟨rfl, B1.out⟩
  have hg3 : decide ((300 : Int) < (n' : Int)) = false := decide_eq_false (by omega)
  have hn3 : n' ≤ 300 := by omega
  clear hg
  have R1 := Lib.hid (And.intro (HR.out.1.on B1.out) (HR.out.2.on B1.out))
  have HZ := Lib.hid (show W.heap.size ≤ w1.heap.size from B1.out.size)
  go_wp2_with fail
  go_loopw [6, 7, 8, 9, 10] (fun v6 v7 v8 v9 v10 wr => ∃ (i k m6 m7 bad : Nat) (A6 A7 : Option Addr) (c6 c7 : Nat) (left : List UInt8) (got : List (List UInt8)) (wp : World), i ≤ n' + 1 ∧ k ≤ n ∧ v6 = .slice A6 m6 c6 ∧ v7 = .slice A7 m7 c7 ∧ v8 = .int .i64 (k : Int) ∧ v9 = .int .i64 (bad : Int) ∧ v10 = .int .i64 (i : Int) ∧ m6 ≤ k ∧ m7 ≤ k ∧ (bad = 0 ∨ bad = 61) ∧
    Hid (PcM l k left got bad) ∧ Hid (i = n' + 1 → k = n) ∧ Hid (left.length = m6) ∧ Hid (got.length = m7) ∧ Hid (OL wp w1.heap.size 0 A7 c7 got) ∧ Hid (OB wr wp.heap.size 5 A6 c6 left) ∧ Hid (w1.heap.size ≤ wp.heap.size) ∧ Hid (Below wp.heap.size wp wr) ∧ Hid (Below w1.heap.size w1 wr)) (fun _ _ _ _ v10 _ => n' + 1 - (intOf v10).toNat)
  case atStart => exact ⟨0, 0, 0, 0, 0, none, none, 0, 0, [], [], w1, by omega, by omega, rfl, rfl, rfl, rfl, rfl, by omega, by omega, .inl rfl, Lib.hid (pc_start l), Lib.hid (fun h => by omega), Lib.hid rfl, Lib.hid rfl, Lib.hid (OL.nil _ _ _), Lib.hid (OB.nil _ _ _), Lib.hid (Nat.le_refl _), Lib.hid (Below.refl _ _), Lib.hid (Below.refl _ _)⟩
  case round =>
    obtain ⟨i, k, m6, m7, bad, A6, A7, c6, c7, left, got, wp, hi, hk, rfl, rfl, rfl, rfl, rfl, hm6, hm7, hbad, HPC, HEND, HM6, HM7, HOG, HOL, HWP, HBP, HB⟩ := hrel
    clear hg2 hg3
    have RW := Lib.hid (And.intro (R1.out.1.on HB.out) (R1.out.2.on HB.out))
    by_cases hgo : i ≤ n' ∧ bad = 0
    · obtain ⟨hi1, rfl⟩ := hgo
      have hi2 : (i : Int) ≤ (n' : Int) := by omega
      have hi5 : decide (i ≤ n') = true := decide_eq_true hi1
      clear hbad
      obtain ⟨r, hr⟩ : ∃ r, r = n - k := ⟨_, rfl⟩
      have hrk : k + r = n := by omega
      obtain ⟨y1, y2⟩ := iwrap ((n : Int) - (k : Int)) r (by omega) (by omega)
      have hr9 : r ≤ 9000 := by omega
      clear hr
      by_cases hin : i < n'
      · have hi3 : (i : Int) < (n' : Int) := by omega
        obtain ⟨b', o', rfl, _, cc⟩ := RW.out.2.byte i (by rw [HL'.out]; exact hin)
        obtain ⟨u, hu⟩ : ∃ u, (l'[i]'(by rw [HL'.out]; exact hin)).toNat = u := ⟨_, rfl⟩
        rw [hu] at cc
        have hu9 : u ≤ 255 := by rw [← hu]; have := (l'[i]'(by rw [HL'.out]; exact hin)).toNat_lt; omega
        clear hu
        obtain ⟨q, hq⟩ : ∃ q, min u r = q := ⟨_, rfl⟩
        have hmin : min (u : Int) (r : Int) = (q : Int) := by omega
        have hqr : k + q ≤ n := by omega
        have HQE := Lib.hid (show i + 1 = n' + 1 → k + q = n by omega)
        clear hq
        have HX := Lib.hid (pc_step l k q left got 0 HPC.out)
        obtain ⟨X, hX⟩ : ∃ X, (l.drop k).take q = X := ⟨_, rfl⟩
        have hxl : X.length = q := by rw [← hX, List.length_take, List.length_drop, HL.out]; omega
        have hxr : Rb wr wr.heap.size (tailA A c k) X := by rw [← hX]; exact (RW.out.1.tail k (by rw [HL.out]; exact hcn)).front q
        have htn := tail_nil HN.out hqr
        have hsm := fun u => slice_mid A n c k q hqr hcn u
        obtain ⟨TA, hTA⟩ : ∃ TA, tailA A c k = TA := ⟨_, rfl⟩
        rw [hTA] at hxr htn hsm
        rw [hX] at HX
        have HXL := Lib.hid hxl
        have HXR := Lib.hid hxr
        have HTN := Lib.hid htn
        have HSM := Lib.hid hsm
        obtain ⟨mq, hmq⟩ : ∃ mq, m6 + q = mq := ⟨_, rfl⟩
        have HMQ := Lib.hid hmq
        obtain ⟨LX, hLX⟩ : ∃ LX, left ++ X = LX := ⟨_, rfl⟩
        have hlx : LX.length = mq := by rw [← hLX, List.length_append, HM6.out, hxl, hmq]
        have HCT := fun A8 c8 w8 (h1 : mq ≤ c8) (h2 : c8 ≤ 9223372036854775807) h => cut_ok A8 mq c8 LX w8 hlx h1 h2 (by omega) h
        have hdn := done_le LX
        have hcc := (pc_count _ _ _ _ _ HX.out)
        rw [hLX] at HX hcc
        obtain ⟨C1, hC1⟩ : ∃ C1, cutF LX = C1 := ⟨_, rfl⟩
        obtain ⟨D1, hD1⟩ : ∃ D1, doneF LX = D1 := ⟨_, rfl⟩
        obtain ⟨E1, hE1⟩ : ∃ E1, errF (restF LX) = E1 := ⟨_, rfl⟩
        have hrs : restF LX = LX.drop D1 := by rw [← hD1]; rfl
        obtain ⟨kc, hkc⟩ : ∃ kc, C1.length = kc := ⟨_, rfl⟩
        rw [hC1, hD1, hE1, hkc] at HCT
        rw [hC1, hE1, hrs] at HX hcc
        rw [hD1, hlx] at hdn
        have hcq : m7 + kc ≤ k + q := by have := hcc.1; rw [List.length_append, HM7.out, hkc] at this; exact this
        have hme := hcc.2.2
        have HKC := Lib.hid hkc
        have HLX := Lib.hid hLX
        have HLL := Lib.hid hlx
        have HCUT := Lib.hid HCT
        have hd0 : decide ((D1 : Int) < 0) = false := decide_eq_false (by omega)
        have hd1 : decide (mq < D1) = false := decide_eq_false (by omega)
        obtain ⟨md, hmd⟩ : ∃ md, mq - D1 = md := ⟨_, rfl⟩
        have hmd2 : md ≤ k + q := by omega
        have hmd3 : md ≤ 9000 := by omega
        have HMD := Lib.hid hmd
        clear HCT hX hxl hxr htn hsm hTA hLX hlx hC1 hD1 hE1 hkc hcc hrs hmq HPC HEND hmd
        go_wp2_with (first | ((with_reducible refine wpList_here ?_); refine wpList_two rfl 22 (.tmp 54) (.tmp 55) (.tmp 58) rfl _ _ _ _ rfl rfl rfl (HSM.out _) ?_) | (at_builtin; refine wp_app_n rfl (.tmp 53) (.tmp 59) 22 5 rfl Try.underlying22 bytesInfo wp.heap.size left A6 m6 c6 rfl HM6.out HOL.out X TA q (c - k) _ rfl HXL.out HTN.out HXR.out (by omega) HBP.out.size mq HMQ.out ?_; intro A8 c8 w8 ho8 hg8 hb8; have HO8 := Lib.hid ho8; have HB8 := Lib.hid hb8; clear ho8 hg8 hb8))
        have ho8 := HO8.out
        rw [HLX.out] at ho8
        have hcap8 : mq ≤ c8 := by have := ho8.cap.1; rw [HLL.out] at this; exact this
        have hn8 : A8 = none → mq = 0 ∧ c8 = 0 := fun h => by have := OB.nil_ ho8 h; rw [HLL.out] at this; exact this
        have hcm8 := ho8.cap.2
        have HE8 := Lib.hid (show El w8 0 A8 c8 LX from ho8.el (fun h => (hn8 h).2))
        have HG8 := Lib.hid (HOG.out.below (HBP.out.trans HB8.out))
        refine (HCUT.out A8 c8 w8 hcap8 hcm8 ho8.rb).mono ?_
        rintro e w9 ⟨A9, c9, rfl, ho9, hb9⟩
        have HE9 := Lib.hid (HE8.out.below hb9)
        have HG9 := Lib.hid (HG8.out.below hb9)
        have HR9 := Lib.hid ho9.rl
        have HN9 := Lib.hid (show A9 = none → kc = 0 ∧ c9 = 0 from fun h => by rw [← HKC.out]; exact ho9.nil_ h)
        have HB9 := Lib.hid (show Below w1.heap.size w1 w9 from (HB.out.trans (HB8.out.mono HWP.out)).trans (hb9.mono (Nat.le_trans HB.out.size HB8.out.size)))
        have hsl2 := fun u => slice_fr A8 mq c8 D1 hdn hcap8 u
        have htb : tailA A8 c8 D1 = none → md = 0 ∧ c8 - D1 = 0 := tail_nil hn8 (by have := HMD.out; omega)
        obtain ⟨TB, hTB⟩ : ∃ TB, tailA A8 c8 D1 = TB := ⟨_, rfl⟩
        have HRS := Lib.hid (show ∀ u, El u 0 A8 c8 LX → Rb u u.heap.size TB (LX.drop D1) from fun u h => by rw [← hTB]; exact h.rb.tail D1 (by rw [HLL.out]; exact hcap8))
        rw [hTB] at hsl2 htb
        rw [HMD.out] at hsl2
        have HSL2 := Lib.hid hsl2
        have HTB := Lib.hid htb
        have HRL := Lib.hid (show (LX.drop D1).length = md by rw [List.length_drop, HLL.out, HMD.out])
        obtain ⟨cd, hcd⟩ : ∃ cd, c8 - D1 = cd := ⟨_, rfl⟩
        rw [hcd] at HSL2 HTB
        clear ho8 hb9 ho9 HCUT hsl2 htb hTB HE8 HG8 HO8 hn8 hcd
        go_wp2_with (first | ((with_reducible refine wpList_here ?_); refine wpList_from rfl 22 (.tmp 82) (.tmp 83) rfl _ _ _ rfl rfl (HSL2.out _) ?_) | (at_builtin; refine wp_appl_any (by kernel_rfl) (.tmp 78) (.tmp 79) rfl w1.heap.size 0 (Nat.zero_le _) got A7 m7 c7 rfl HM7.out HG9.out C1 A9 kc c9 rfl HKC.out HN9.out HR9.out (by have h1 := HM7.out; have h2 := HKC.out; omega) HB9.out.size ?_; intro A10 c10 w10 ho10 hg10 hb10; have HG10 := Lib.hid ho10; have HB10 := Lib.hid (HB9.out.trans hb10); have HE10 := Lib.hid (HE9.out.grown hg10 (fun g hgx => (by obtain ⟨a1, _, a3⟩ := HG9.out.row (n := m7) g hgx; exact ⟨Nat.zero_le _, a3⟩))); clear ho10 hg10 hb10) | (at_builtin; refine wp_app_n rfl (.tmp 81) (.tmp 84) 22 5 rfl Try.underlying22 bytesInfo w10.heap.size [] (some ⟨w10.heap.size, 0, none⟩) 0 0 rfl rfl (OB.new _ [] (Nat.le_refl _) (by simp)) (LX.drop D1) TB md cd _ rfl HRL.out HTB.out (Rb.on (HRS.out w10 HE10.out) ((Below.refl w10.heap.size w10).alloc (Nat.le_refl _) (.cells #[] 5))) (by omega) (by rw [World.size_alloc]; omega) md (Nat.zero_add _) ?_; intro A12 c12 w12 ho12 hg12 hb12; have HO12 := Lib.hid ho12; have HB12 := Lib.hid (((Below.refl w10.heap.size w10).alloc (Nat.le_refl _) (.cells #[] 5)).trans hb12); clear ho12 hg12 hb12))
        go_roundw
        case rel =>
          exact ⟨i + 1, k + q, md, m7 + kc, E1, A12, A10, c12, c10, LX.drop D1, got ++ C1, w10, by omega, hqr, rfl, rfl, by go_num, rfl, by go_num, hmd2, hcq, hme, HX, HQE, HRL, Lib.hid (by rw [List.length_append, HM7.out, HKC.out]), HG10, (by have := HO12; rwa [List.nil_append] at this), Lib.hid HB10.out.size, HB12, Lib.hid (HB10.out.trans (HB12.out.mono HB10.out.size))⟩
        case measure => simp [intOf]; omega
      · have hi4 : decide ((i : Int) < (n' : Int)) = false := decide_eq_false (by omega)
        have hi5 : decide (i < n') = false := decide_eq_false (by omega)
        obtain ⟨q, hq⟩ : ∃ q, q = r := ⟨_, rfl⟩
        have HQE := Lib.hid (show i + 1 = n' + 1 → k + q = n by omega)
        have hqr : k + q ≤ n := by omega
        subst hq
        have HX := Lib.hid (pc_step l k q left got 0 HPC.out)
        obtain ⟨X, hX⟩ : ∃ X, (l.drop k).take q = X := ⟨_, rfl⟩
        have hxl : X.length = q := by rw [← hX, List.length_take, List.length_drop, HL.out]; omega
        have hxr : Rb wr wr.heap.size (tailA A c k) X := by rw [← hX]; exact (RW.out.1.tail k (by rw [HL.out]; exact hcn)).front q
        have htn := tail_nil HN.out hqr
        have hsm := fun u => slice_mid A n c k q hqr hcn u
        obtain ⟨TA, hTA⟩ : ∃ TA, tailA A c k = TA := ⟨_, rfl⟩
        rw [hTA] at hxr htn hsm
        rw [hX] at HX
        have HXL := Lib.hid hxl
        have HXR := Lib.hid hxr
        have HTN := Lib.hid htn
        have HSM := Lib.hid hsm
        obtain ⟨mq, hmq⟩ : ∃ mq, m6 + q = mq := ⟨_, rfl⟩
        have HMQ := Lib.hid hmq
        obtain ⟨LX, hLX⟩ : ∃ LX, left ++ X = LX := ⟨_, rfl⟩
        have hlx : LX.length = mq := by rw [← hLX, List.length_append, HM6.out, hxl, hmq]
        have HCT := fun A8 c8 w8 (h1 : mq ≤ c8) (h2 : c8 ≤ 9223372036854775807) h => cut_ok A8 mq c8 LX w8 hlx h1 h2 (by omega) h
        have hdn := done_le LX
        have hcc := (pc_count _ _ _ _ _ HX.out)
        rw [hLX] at HX hcc
        obtain ⟨C1, hC1⟩ : ∃ C1, cutF LX = C1 := ⟨_, rfl⟩
        obtain ⟨D1, hD1⟩ : ∃ D1, doneF LX = D1 := ⟨_, rfl⟩
        obtain ⟨E1, hE1⟩ : ∃ E1, errF (restF LX) = E1 := ⟨_, rfl⟩
        have hrs : restF LX = LX.drop D1 := by rw [← hD1]; rfl
        obtain ⟨kc, hkc⟩ : ∃ kc, C1.length = kc := ⟨_, rfl⟩
        rw [hC1, hD1, hE1, hkc] at HCT
        rw [hC1, hE1, hrs] at HX hcc
        rw [hD1, hlx] at hdn
        have hcq : m7 + kc ≤ k + q := by have := hcc.1; rw [List.length_append, HM7.out, hkc] at this; exact this
        have hme := hcc.2.2
        have HKC := Lib.hid hkc
        have HLX := Lib.hid hLX
        have HLL := Lib.hid hlx
        have HCUT := Lib.hid HCT
        have hd0 : decide ((D1 : Int) < 0) = false := decide_eq_false (by omega)
        have hd1 : decide (mq < D1) = false := decide_eq_false (by omega)
        obtain ⟨md, hmd⟩ : ∃ md, mq - D1 = md := ⟨_, rfl⟩
        have hmd2 : md ≤ k + q := by omega
        have hmd3 : md ≤ 9000 := by omega
        have HMD := Lib.hid hmd
        clear HCT hX hxl hxr htn hsm hTA hLX hlx hC1 hD1 hE1 hkc hcc hrs hmq HPC HEND hmd
        go_wp2_with (first | ((with_reducible refine wpList_here ?_); refine wpList_two rfl 22 (.tmp 54) (.tmp 55) (.tmp 58) rfl _ _ _ _ rfl rfl rfl (HSM.out _) ?_) | (at_builtin; refine wp_app_n rfl (.tmp 53) (.tmp 59) 22 5 rfl Try.underlying22 bytesInfo wp.heap.size left A6 m6 c6 rfl HM6.out HOL.out X TA q (c - k) _ rfl HXL.out HTN.out HXR.out (by omega) HBP.out.size mq HMQ.out ?_; intro A8 c8 w8 ho8 hg8 hb8; have HO8 := Lib.hid ho8; have HB8 := Lib.hid hb8; clear ho8 hg8 hb8))
        have ho8 := HO8.out
        rw [HLX.out] at ho8
        have hcap8 : mq ≤ c8 := by have := ho8.cap.1; rw [HLL.out] at this; exact this
        have hn8 : A8 = none → mq = 0 ∧ c8 = 0 := fun h => by have := OB.nil_ ho8 h; rw [HLL.out] at this; exact this
        have hcm8 := ho8.cap.2
        have HE8 := Lib.hid (show El w8 0 A8 c8 LX from ho8.el (fun h => (hn8 h).2))
        have HG8 := Lib.hid (HOG.out.below (HBP.out.trans HB8.out))
        refine (HCUT.out A8 c8 w8 hcap8 hcm8 ho8.rb).mono ?_
        rintro e w9 ⟨A9, c9, rfl, ho9, hb9⟩
        have HE9 := Lib.hid (HE8.out.below hb9)
        have HG9 := Lib.hid (HG8.out.below hb9)
        have HR9 := Lib.hid ho9.rl
        have HN9 := Lib.hid (show A9 = none → kc = 0 ∧ c9 = 0 from fun h => by rw [← HKC.out]; exact ho9.nil_ h)
        have HB9 := Lib.hid (show Below w1.heap.size w1 w9 from (HB.out.trans (HB8.out.mono HWP.out)).trans (hb9.mono (Nat.le_trans HB.out.size HB8.out.size)))
        have hsl2 := fun u => slice_fr A8 mq c8 D1 hdn hcap8 u
        have htb : tailA A8 c8 D1 = none → md = 0 ∧ c8 - D1 = 0 := tail_nil hn8 (by have := HMD.out; omega)
        obtain ⟨TB, hTB⟩ : ∃ TB, tailA A8 c8 D1 = TB := ⟨_, rfl⟩
        have HRS := Lib.hid (show ∀ u, El u 0 A8 c8 LX → Rb u u.heap.size TB (LX.drop D1) from fun u h => by rw [← hTB]; exact h.rb.tail D1 (by rw [HLL.out]; exact hcap8))
        rw [hTB] at hsl2 htb
        rw [HMD.out] at hsl2
        have HSL2 := Lib.hid hsl2
        have HTB := Lib.hid htb
        have HRL := Lib.hid (show (LX.drop D1).length = md by rw [List.length_drop, HLL.out, HMD.out])
        obtain ⟨cd, hcd⟩ : ∃ cd, c8 - D1 = cd := ⟨_, rfl⟩
        rw [hcd] at HSL2 HTB
        clear ho8 hb9 ho9 HCUT hsl2 htb hTB HE8 HG8 HO8 hn8 hcd
        go_wp2_with (first | ((with_reducible refine wpList_here ?_); refine wpList_from rfl 22 (.tmp 82) (.tmp 83) rfl _ _ _ rfl rfl (HSL2.out _) ?_) | (at_builtin; refine wp_appl_any (by kernel_rfl) (.tmp 78) (.tmp 79) rfl w1.heap.size 0 (Nat.zero_le _) got A7 m7 c7 rfl HM7.out HG9.out C1 A9 kc c9 rfl HKC.out HN9.out HR9.out (by have h1 := HM7.out; have h2 := HKC.out; omega) HB9.out.size ?_; intro A10 c10 w10 ho10 hg10 hb10; have HG10 := Lib.hid ho10; have HB10 := Lib.hid (HB9.out.trans hb10); have HE10 := Lib.hid (HE9.out.grown hg10 (fun g hgx => (by obtain ⟨a1, _, a3⟩ := HG9.out.row (n := m7) g hgx; exact ⟨Nat.zero_le _, a3⟩))); clear ho10 hg10 hb10) | (at_builtin; refine wp_app_n rfl (.tmp 81) (.tmp 84) 22 5 rfl Try.underlying22 bytesInfo w10.heap.size [] (some ⟨w10.heap.size, 0, none⟩) 0 0 rfl rfl (OB.new _ [] (Nat.le_refl _) (by simp)) (LX.drop D1) TB md cd _ rfl HRL.out HTB.out (Rb.on (HRS.out w10 HE10.out) ((Below.refl w10.heap.size w10).alloc (Nat.le_refl _) (.cells #[] 5))) (by omega) (by rw [World.size_alloc]; omega) md (Nat.zero_add _) ?_; intro A12 c12 w12 ho12 hg12 hb12; have HO12 := Lib.hid ho12; have HB12 := Lib.hid (((Below.refl w10.heap.size w10).alloc (Nat.le_refl _) (.cells #[] 5)).trans hb12); clear ho12 hg12 hb12))
        go_roundw
        case rel =>
          exact ⟨i + 1, k + q, md, m7 + kc, E1, A12, A10, c12, c10, LX.drop D1, got ++ C1, w10, by omega, hqr, rfl, rfl, by go_num, rfl, by go_num, hmd2, hcq, hme, HX, HQE, HRL, Lib.hid (by rw [List.length_append, HM7.out, HKC.out]), HG10, (by have := HO12; rwa [List.nil_append] at this), Lib.hid HB10.out.size, HB12, Lib.hid (HB10.out.trans (HB12.out.mono HB10.out.size))⟩
        case measure => simp [intOf]; omega
    · have HFIN := Lib.hid (pc_end l k left got bad HPC.out (by
        rcases hbad with h | h
        · right
          rw [HL.out]
          have := HEND.out (by omega)
          omega
        · left; omega))
      have HCUT := cut_ok A n c l wr HL.out hcn hmx (by omega) RW.out.1
      rw [HFIN.out.1, HFIN.out.2, HM7.out] at HCUT
      have HCUT := Lib.hid HCUT
      have HRG := Lib.hid (HOG.out.below HBP.out)
      have HS := Lib.hid (fun A9 c9 wz h1 h2 (h : Rl wz 0 A9 got) (h' : Rl wz 0 A7 got) => same_ok A7 m7 c7 got A9 m7 c9 got 0 0 wz HM7.out HM7.out (by rw [← HM7.out]; exact HOG.out.cap.1) HOG.out.cap.2 h1 h2 h' h)
      rw [decide_eq_true (rfl : got = got)] at HS
      have hxx : ((bad : Int) == (bad : Int)) = true := beq_self_eq_true _
      by_cases hi1 : i ≤ n'
      · have hb61 : bad = 61 := by omega
        subst hb61
        have hi2 : (i : Int) ≤ (n' : Int) := by omega
        have hi5 : decide (i ≤ n') = true := decide_eq_true hi1
        clear hgo hbad HPC HEND HFIN
        go_wp2_with fail
        refine HCUT.out.mono ?_
        rintro e wy ⟨A9, c9, rfl, ho9, hb9⟩
        have HR9 := Lib.hid (And.intro ho9.rl (HRG.out.below hb9).rl)
        have HC9 := Lib.hid (show m7 ≤ c9 ∧ c9 ≤ 9223372036854775807 from by have := ho9.cap; rw [HM7.out] at this; exact this)
        have HB9 := Lib.hid ((B1.out.trans (HB.out.mono HZ.out)).trans (hb9.mono (Nat.le_trans HZ.out HB.out.size)))
        clear ho9 hb9 HCUT HRG
        go_wp2_with fail
        refine (HS.out A9 c9 _ HC9.out.1 HC9.out.2 HR9.out.1 HR9.out.2).mono ?_
        rintro e wz ⟨rfl, hbz⟩
        have HBZ := Lib.hid (HB9.out.trans (hbz.mono HB9.out.size))
        clear hbz HS
        go_wp2_with fail
        go_ret
        exact ⟨rfl, HBZ.out⟩
      · have hi2 : ¬ (i : Int) ≤ (n' : Int) := by omega
        have hi5 : decide (i ≤ n') = false := decide_eq_false hi1
        clear hgo hbad HPC HEND HFIN
        go_wp2_with fail
        refine HCUT.out.mono ?_
        rintro e wy ⟨A9, c9, rfl, ho9, hb9⟩
        have HR9 := Lib.hid (And.intro ho9.rl (HRG.out.below hb9).rl)
        have HC9 := Lib.hid (show m7 ≤ c9 ∧ c9 ≤ 9223372036854775807 from by have := ho9.cap; rw [HM7.out] at this; exact this)
        have HB9 := Lib.hid ((B1.out.trans (HB.out.mono HZ.out)).trans (hb9.mono (Nat.le_trans HZ.out HB.out.size)))
        clear ho9 hb9 HCUT HRG
        go_wp2_with fail
        refine (HS.out A9 c9 _ HC9.out.1 HC9.out.2 HR9.out.1 HR9.out.2).mono ?_
        rintro e wz ⟨rfl, hbz⟩
        have HBZ := Lib.hid (HB9.out.trans (hbz.mono HB9.out.size))
        clear hbz HS
        go_wp2_with fail
        go_ret
        exact ⟨rfl, HBZ.out⟩
end Go.Proofs.Ytcmcmbgdakcmmaa
