/- PumpOrder: what went out is a beginning of what was accepted: the walk. (Written by gen_puorder.py.) -/
import Derived.Test.YtpomeimjgbblmaaPuQ
import Derived.Test.YtpomeimjgbblmaaCat
import Derived.Deep.CutRange
namespace Go.Proofs.Ytpomeimjgbblmaa
set_option linter.unusedVariables false
set_option maxRecDepth 100000
set_option linter.unusedSimpArgs false
open Go.RowKit

/-- What came in at each side, what went out at each. -/
structure So7 (p : Pu) (I0 I1 O0 O1 : List UInt8) : Prop where
  br : p.br = false
  a : I0 = O1 ++ p.a.q
  b : I1 = O0 ++ p.b.q
  ma : p.a.mv = (O1.length : Int)
  mb : p.b.mv = (O0.length : Int)
theorem So7.lt {M i : Nat} {p : Pu} {I0 I1 O0 O1 : List UInt8} (h : So7 p I0 I1 O0 O1) (hg : Gu M p) (hf : Fi i p) (hM : M ≤ 255) (hi : i ≤ 1000) : (I0.length ≤ 100000000 ∧ I1.length ≤ 100000000) ∧ O0.length ≤ 100000000 ∧ O1.length ≤ 100000000 := by
  have h1 := congrArg List.length h.a
  have h2 := congrArg List.length h.b
  rw [List.length_append] at h1 h2
  have h3 := hg.a.le
  have h4 := hg.b.le
  have h5 := hf.a.2
  have h6 := hf.b.2
  have h7 := h.ma
  have h8 := h.mb
  omega
theorem bs_front (X Y : List UInt8) : (bs (X ++ Y)).extract 0 (bs X).size = bs X := by
  apply ByteArray.ext
  rw [ByteArray.data_extract]
  simp [bs, ByteArray.size]
theorem str_front (P0 Q : List UInt8) (ny : Nat) (u : World) (h : P0.length = ny) : (Instr.sliceAt 9 (.string (bs (P0 ++ Q))) none (some (.int .i64 (ny : Int))) none).run Try.prog u = .ok (.string (bs P0)) u := by
  have hs : (bs (P0 ++ Q)).size = ny + Q.length := by rw [bs_size, List.length_append, h]
  obtain ⟨X, hX⟩ : ∃ X, bs (P0 ++ Q) = X := ⟨_, rfl⟩
  have hf : X.extract 0 ny = bs P0 := by rw [← hX, ← h, ← bs_size P0]; exact bs_front P0 Q
  rw [hX] at hs ⊢
  have h1 : (ny : Int) ≤ (X.size : Int) := by omega
  go_simp
  intro hh
  omega

set_option maxRecDepth 100000 in
set_option maxHeartbeats 16000000 in
theorem walk_PumpOrder (M : Nat) (A : Option Addr) (L : List OpP) (n c : Nat) (W : World) (hM : M ≤ 255) (h : InP W A L n c) :
    Calls Try.prog 4 #[.int .u8 (M : Int), .slice A n c] W fun e w' => e = .returned (.bool true) ∧ Below W.heap.size W w' := by
  have HI := Lib.hid h
  have hcapn : n ≤ 9223372036854775807 := by have h1 := h.cap; have h2 := h.max; unfold maxLen at h2; omega
  have hwM : IntKind.i64.wrap (M : Int) = (M : Int) := by rw [IntKind.wrap_i64]; omega
  have hm6 : M ≤ 65536 := by omega
  have HMM := Lib.hid (mostM_nat M hm6)
  clear h
  go_enter Try.func4, Try.ntmps4
  go_upto_region 2 with (go_at_call 10; (with_reducible refine (puhead_ok _).mono ?_); rintro e u1 ⟨rfl, hb⟩; have HB1 := Lib.hid hb; clear hb)
  go_upto_region 3 with (go_at_call 11; (with_reducible refine (y_new (M : Int) M HMM.out HB1.out).mono ?_); rintro e u2 ⟨G2, pb, rfl, h1, h2, h3⟩; have HZ2 := Lib.hid h1; clear h1 h2 h3)
  have HG := Lib.hid (pugreat_ok A L n c W u2 HI.out HZ2.out.l)
  go_wp2_with (go_at_call 13; (with_reducible refine HG.out.mono ?_); rintro e uu ⟨⟨v, rfl, hv⟩, hw⟩; rw [hw]; clear hw; cases v)
  all_goals try (go_ret; exact ⟨rfl, HZ2.out.l⟩)
  have h400 : n ≤ 400 := by simpa using hv
  clear HG hv
  obtain ⟨tb1, htb1⟩ : ∃ t, u2.heap.size = t := ⟨_, rfl⟩
  obtain ⟨u3, hu3⟩ : ∃ u3, u2.alloc (.cells #[.string ⟨#[]⟩, .string ⟨#[]⟩] 9) = u3 := ⟨_, rfl⟩
  have hb3 : Below u2.heap.size u2 u3 := by rw [← hu3]; exact (Below.refl _ _).alloc (Nat.le_refl _) _
  have HZ3 := Lib.hid (HZ2.out.on hb3)
  have HT3 := Lib.hid (show Bz u3 G2 tb1 9 #[.string (bs []), .string (bs [])] by rw [← hu3, ← htb1]; exact Bz.new HZ2.out.hi _ _)
  obtain ⟨tb2, htb2⟩ : ∃ t, tb1 + 1 = t := ⟨_, rfl⟩
  have hsz3 : u3.heap.size = tb2 := by rw [← hu3, World.size_alloc, htb1, htb2]
  have HTB := Lib.hid (show W.heap.size ≤ tb1 ∧ W.heap.size ≤ tb2 ∧ tb1 ≠ tb2 from ⟨by rw [← htb1]; exact HZ2.out.l.size, by rw [← hsz3]; exact HZ3.out.l.size, by have := HT3.out.b.lt; omega⟩)
  obtain ⟨u4, hu4⟩ : ∃ u4, u3.alloc (.cells #[.string ⟨#[]⟩, .string ⟨#[]⟩] 9) = u4 := ⟨_, rfl⟩
  have hb4 : Below u3.heap.size u3 u4 := by rw [← hu4]; exact (Below.refl _ _).alloc (Nat.le_refl _) _
  have HZ4 := Lib.hid (HZ3.out.on hb4)
  have HT4 := Lib.hid (HT3.out.on hb4)
  have HU4 := Lib.hid (show Bz u4 G2 tb2 9 #[.string (bs []), .string (bs [])] by rw [← hu4, ← hsz3]; exact Bz.new HZ3.out.hi _ _)
  go_upto_region 7 with fail
  try rw [htb1]
  try rw [hu3]
  try rw [hsz3]
  try rw [htb2]
  try rw [hu4]
  clear hu3 hu4 hb3 hb4 htb1 htb2 hsz3
  go_wp2_with fail
  go_loopw [9] (fun v9 wr => ∃ (i : Nat) (p : Pu) (G : List Nat) (I0 I1 O0 O1 : List UInt8), i ≤ n ∧ v9 = .int .i64 (i : Int) ∧ Hid (Zu W wr G pb M p) ∧ Hid (Gu M p ∧ Fi i p) ∧ Hid (Bz wr G tb1 9 #[.string (bs I0), .string (bs I1)]) ∧ Hid (Bz wr G tb2 9 #[.string (bs O0), .string (bs O1)]) ∧ Hid (So7 p I0 I1 O0 O1)) (fun v9 _ => n - (intOf v9).toNat)
  case atStart => exact ⟨0, pu0, G2, [], [], [], [], by omega, rfl, HZ4, Lib.hid ⟨gu_new M, fi_new⟩, HT4, HU4, Lib.hid ⟨rfl, rfl, rfl, rfl, rfl⟩⟩
  case round =>
    obtain ⟨i, p, G, I0, I1, O0, O1, hi, rfl, HZ, HE, HT, HU, HR⟩ := hrel
    by_cases hi1 : i < n
    · have hi2 : (i : Int) < (n : Int) := by omega
      have HFU := Lib.hid (HE.out.2.fu (by omega))
      have HIB := Lib.hid (HR.out.lt HE.out.1 HE.out.2 hM (by omega))
      obtain ⟨bx, o, op, rfl, hx, hc⟩ := HI.out.at_ i hi1
      obtain ⟨⟨x0, x1, x2, x3⟩, hok⟩ := hc wr HZ.out.l
      obtain ⟨ow, os, oA, oc, ol, ox⟩ := op
      dsimp only at x0 x1 x2 x3
      obtain ⟨on, hon⟩ : ∃ on, ol.length = on := ⟨_, rfl⟩
      rw [hon] at x2
      have HON := Lib.hid hon
      have HOK := Lib.hid (fun u (hu : Below W.heap.size W u) => (hc u hu).2)
      clear hx hc hok hon
      go_upto_region 11 with fail
      obtain ⟨kb, hkb⟩ : ∃ kb, wr.heap.size = kb := ⟨_, rfl⟩
      obtain ⟨v, hv⟩ : ∃ v, wr.alloc (.cells #[.int .i64 ow, .int .i64 os, .slice oA on oc, .int .i64 ox] 31) = v := ⟨_, rfl⟩
      have hbv : Below wr.heap.size wr v := by rw [← hv]; exact (Below.refl _ _).alloc (Nat.le_refl _) _
      have HB := Lib.hid (show Bz v G kb 31 #[.int .i64 ow, .int .i64 os, .slice oA on oc, .int .i64 ox] by rw [← hv, ← hkb]; exact Bz.new HZ.out.hi _ _)
      have HZv := Lib.hid (HZ.out.on hbv)
      have HTv := Lib.hid (HT.out.on hbv)
      have HUv := Lib.hid (HU.out.on hbv)
      try rw [hv]
      try rw [hkb]
      clear hv hkb hbv x0 x1 x2 x3
      have e0 : v.cell? ⟨kb, 0, none⟩ = some (.int .i64 ow) := HB.out.b.cell 0
      have e1 : v.cell? ⟨kb, 1, none⟩ = some (.int .i64 os) := HB.out.b.cell 1
      have e2 : v.cell? ⟨kb, 2, none⟩ = some (.slice oA on oc) := HB.out.b.cell 2
      have e3 : v.cell? ⟨kb, 3, none⟩ = some (.int .i64 ox) := HB.out.b.cell 3
      by_cases h4 : ow = 4
      · subst h4
        have z4 : ((4 : Int) == 4) = true := rfl
        by_cases hs0 : os = 0
        · subst hs0
          go_wp2_with fail
          go_roundw
          case rel => exact ⟨i + 1, p, G, I0, I1, O0, O1, by omega, by go_num, HZv, Lib.hid ⟨HE.out.1, HE.out.2.of rfl rfl⟩, HTv, HUv, HR⟩
          case measure => simp [intOf] <;> omega
        · by_cases hs1 : os = 1
          · subst hs1
            go_wp2_with fail
            go_roundw
            case rel => exact ⟨i + 1, p, G, I0, I1, O0, O1, by omega, by go_num, HZv, Lib.hid ⟨HE.out.1, HE.out.2.of rfl rfl⟩, HTv, HUv, HR⟩
            case measure => simp [intOf] <;> omega
          · have z0 : (os != 0) = true := by simp [hs0]
            have z1 : (os != 1) = true := by simp [hs1]
            clear hs0 hs1
            go_wp2_with fail
            go_roundw
            case rel => exact ⟨i + 1, p, G, I0, I1, O0, O1, by omega, by go_num, HZv, Lib.hid ⟨HE.out.1, HE.out.2.of rfl rfl⟩, HTv, HUv, HR⟩
            case measure => simp [intOf] <;> omega
      have h4b : (ow == 4) = false := by simp [h4]
      clear h4
      by_cases hs0 : os = 0
      · subst hs0
        go_upto_if 59 with fail
        go_cut [9, 11, 12, 13] from 34 to 170 (fun v9 v11 v12 v13 wx => ∃ (p2 : Pu) (G5 : List Nat) (J0 J1 P0 P1 : List UInt8), v9 = .int .i64 (i : Int) ∧ Hid (Zu W wx G5 pb M p2) ∧ Hid (Gu M p2 ∧ Fi (i + 1) p2) ∧ Hid (Bz wx G5 tb1 9 #[.string (bs J0), .string (bs J1)]) ∧ Hid (Bz wx G5 tb2 9 #[.string (bs P0), .string (bs P1)]) ∧ Hid (So7 p2 J0 J1 P0 P1))
        case first =>
          by_cases h2 : ow = 2
          · subst h2
            have h2c : ((2 : Int) == 2) = true := rfl
            obtain ⟨⟨⟨l, b⟩, p2⟩, hR⟩ : ∃ R, outP p 0 ox = R := ⟨_, rfl⟩
            have HRE := Lib.hid hR
            have HE2 := Lib.hid (show Gu M p2 ∧ Fi (i + 1) p2 from ⟨gu_out2 HE.out.1 hR, fi_out HE.out.2 HE.out.1 hm6 hR⟩)
            have HS2 := Lib.hid (show So7 p2 I0 I1 (O0 ++ l) O1 by
              have ho := out_at (k := false) rfl HE.out.1 hR
              have hr := HR.out
              have e1 : p2.a = p.a := ho.same
              have e2 : p2.b.mv = p.b.mv + (l.length : Int) := ho.mv
              have e3 : p.b.q = l ++ p2.b.q := ho.split hr.br
              have h5 := hr.b
              rw [e3, ← List.append_assoc] at h5
              have h6 : p2.b.mv = (((O0 ++ l).length : Nat) : Int) := by rw [e2, hr.mb, List.length_append]; omega
              exact ⟨ho.br.trans hr.br, by rw [e1]; exact hr.a, h5, by rw [e1]; exact hr.ma, h6⟩)
            obtain ⟨t, ht⟩ : ∃ t, l.length = t := ⟨_, rfl⟩
            have HLT := Lib.hid ht
            have HLB := Lib.hid (show O0.length + l.length ≤ 9223372036854775807 by have h1 := (HS2.out.lt HE2.out.1 HE2.out.2 hM (by omega)).2.1; rw [List.length_append] at h1; omega)
            clear hR ht
            go_upto_region 14 with (go_at_call 14; (with_reducible refine (y_out HZv.out HE.out.1 hm6 HFU.out 0 ox t l b p2 HRE.out HLT.out).mono ?_); rintro e u5 ⟨G5, A4, c4, rfl, h0, h1, h2⟩; have HZ5 := Lib.hid h1; have HB5 := Lib.hid (HB.out.step h2); have HT5 := Lib.hid (HTv.out.step h2); have HU5 := Lib.hid (HUv.out.step h2); have HX5 := Lib.hid (h0.rf (G := G5) (fun y hy => .inl hy)); clear h0 h1 h2)
            clear e0 e1 e2 e3
            have e1 : u5.cell? ⟨kb, 1, none⟩ = some (.int .i64 0) := HB5.out.b.cell 1
            have hX5 : Rb u5.drew u5.drew.heap.size A4 l := ((HX5.out.ke ((Ke.refl [] u5).drew) (by simp))).rb
            have q4 : (convert 29 9 (.slice A4 t c4)).run Try.prog u5.drew = .ok (.string (bs l)) u5.drew := str_of (P := Try.prog) hX5 29 5 9 Try.underlying29 Try.underlying5 Try.underlying9 t c4 HLT.out
            obtain ⟨X, hX⟩ : ∃ X, bs O0 = X := ⟨_, rfl⟩
            obtain ⟨Y, hY⟩ : ∃ Y, bs l = Y := ⟨_, rfl⟩
            have hV : bs (O0 ++ l) = X ++ Y := by rw [← hX, ← hY, bs_cat]
            have hsz : ¬ (9223372036854775807 < X.size + Y.size) := by rw [← hX, ← hY, bs_size, bs_size]; exact Nat.not_lt.2 HLB.out
            obtain ⟨V, hVV⟩ : ∃ V, X ++ Y = V := ⟨_, rfl⟩
            rw [hVV] at hV
            rw [hY] at q4
            have d0 : u5.cell? ⟨tb2, 0, none⟩ = some (.string X) := by rw [← hX]; exact HU5.out.b.cell 0
            have f0 := HU5.out.b.frozen 0
            have HV := Lib.hid hV
            clear hX5 hX hY hV
            go_region
            clear e1 d0 f0 q4 hsz hVV
            go_wp2_with fail
            obtain ⟨u6, hu6⟩ : ∃ w, (u5.setCell ⟨tb2, 0, none⟩ (.string V)).drew = w := ⟨_, rfl⟩
            try rw [hu6]
            have kk : Ke [tb2] u5 u6 := by rw [← hu6]; exact ((Ke.refl [tb2] u5).set (p := ⟨tb2, 0, none⟩) (by simp) _).drew
            have HZ6 := Lib.hid (HZ5.out.ke kk (fun y hy hx => by rw [List.mem_singleton.1 hx] at hy; exact HU5.out.n hy) (HZ5.out.l.trans (kk.below HZ5.out.l.size (fun x hx => by rw [List.mem_singleton.1 hx]; exact HTB.out.2.1))))
            have HU6 := Lib.hid (show Bz u6 G5 tb2 9 #[.string (bs (O0 ++ l)), .string (bs O1)] from ⟨by rw [← hu6, HV.out]; exact (HU5.out.b.set 0 _).drew, HU5.out.n⟩)
            have HT6 := Lib.hid (show Bz u6 G5 tb1 9 #[.string (bs I0), .string (bs I1)] from ⟨HT5.out.b.ke kk (by simpa using HTB.out.2.2), HT5.out.n⟩)
            clear hu6 kk
            go_meet
            case rel => exact ⟨p2, G5, I0, I1, (O0 ++ l), O1, rfl, HZ6, HE2, HT6, HU6, HS2⟩
          · have h2b : (ow == 2) = false := by simp [h2]
            clear h2
            by_cases h3 : ow = 3
            · subst h3
              obtain ⟨⟨r, p2⟩, hR⟩ : ∃ R, endP p 0 = R := ⟨_, rfl⟩
              have HRE := Lib.hid hR
              have HE2 := Lib.hid (show Gu M p2 ∧ Fi (i + 1) p2 from ⟨gu_end2 HE.out.1 hR, fi_end HE.out.2 hR⟩)
              have HS2 := Lib.hid (show So7 p2 I0 I1 O0 O1 by
                have ho := end_at (k := false) rfl hR
                have hr := HR.out
                have e1 : p2.b = p.b := ho.same
                have e2 : p2.a.mv = p.a.mv := ho.mv
                have e3 : p2.a.q = p.a.q := ho.q
                exact ⟨ho.br.trans hr.br, by rw [e3]; exact hr.a, by rw [e1]; exact hr.b, by rw [e2]; exact hr.ma, by rw [e1]; exact hr.mb⟩)
              clear hR
              go_wp2_with (go_at_call 16; (with_reducible refine (y_end HZv.out 0 r p2 HRE.out).mono ?_); rintro e u6 ⟨G5, rfl, h1, h2⟩; have HZ6 := Lib.hid h1; have HT6 := Lib.hid (HTv.out.step h2); have HU6 := Lib.hid (HUv.out.step h2); clear h1 h2)
              clear e0 e1 e2 e3
              go_meet
              case rel => exact ⟨p2, G5, I0, I1, O0, O1, rfl, HZ6, HE2, HT6, HU6, HS2⟩
            · have h3b : (ow == 3) = false := by simp [h3]
              clear h3
              obtain ⟨⟨r, p2⟩, hR⟩ : ∃ R, inP M p 0 ol = R := ⟨_, rfl⟩
              have HRE := Lib.hid hR
              have HE2 := Lib.hid (show Gu M p2 ∧ Fi (i + 1) p2 from ⟨gu_in2 HE.out.1 hR, fi_in HE.out.2 hR⟩)
              have hro : r ≤ on := by have h1 := (in_at (k := false) rfl hR).le; rw [HON.out] at h1; exact h1
              have HS2 := Lib.hid (show So7 p2 (I0 ++ ol.take r) I1 O0 O1 by
                have ho := in_at (k := false) rfl hR
                have hr := HR.out
                have e1 : p2.b = p.b := ho.same
                have e2 : p2.a.mv = p.a.mv := ho.mv
                have e3 : p2.a.q = p.a.q ++ ol.take r := ho.q
                have h5 : I0 ++ ol.take r = O1 ++ p2.a.q := by rw [e3, hr.a, List.append_assoc]
                exact ⟨ho.br.trans hr.br, h5, by rw [e1]; exact hr.b, by rw [e2]; exact hr.ma, by rw [e1]; exact hr.mb⟩)
              have HLB := Lib.hid (show I0.length + (ol.take r).length ≤ 9223372036854775807 by have h1 := (HS2.out.lt HE2.out.1 HE2.out.2 hM (by omega)).1.1; rw [List.length_append] at h1; omega)
              have HOV2 := Lib.hid (HOK.out v HZv.out.l)
              have HTR := Lib.hid (show (ol.take r).length = r by rw [List.length_take, HON.out]; omega)
              have hr0 : ¬ ((r : Int) < 0) := by omega
              have hr1 : decide ((r : Int) < 0) = false := decide_eq_false hr0
              have hr2 : decide ((on : Int) < (r : Int)) = false := decide_eq_false (by omega)
              have hr3 : decide (on < r) = false := decide_eq_false (by omega)
              have hoc : on ≤ oc := HON.out ▸ HOV2.out.cap
              clear hR
              go_upto_region 18 with (go_at_call 20; (with_reducible refine (y_in HZv.out HE.out.1 hm6 0 oA on oc ol HON.out (HON.out ▸ HOV2.out.cap) HOV2.out.max (fun hh => HON.out ▸ HOV2.out.nil_ hh) (HOV2.out.rb.rf HZv.out.lo) r p2 HRE.out).mono ?_); rintro e u5 ⟨G5, rfl, h1, h2⟩; have HZ5 := Lib.hid h1; have HB5 := Lib.hid (HB.out.step h2); have HT5 := Lib.hid (HTv.out.step h2); have HU5 := Lib.hid (HUv.out.step h2); clear h1 h2)
              clear e0 e1 e2 e3
              have e1 : u5.cell? ⟨kb, 1, none⟩ = some (.int .i64 0) := HB5.out.b.cell 1
              have e2 : u5.cell? ⟨kb, 2, none⟩ = some (.slice oA on oc) := HB5.out.b.cell 2
              go_upto_region 20 with fail
              have hX5 : Rb u5.drew W.heap.size oA (ol.take r) := ((HOK.out u5.drew (HZ5.out.l.trans (((Below.refl u5.heap.size u5).drew).mono HZ5.out.l.size))).rb).front r
              have q3 := slice_to oA on oc r hro hoc u5.drew
              have q4 : (convert 29 9 (.slice oA r oc)).run Try.prog u5.drew = .ok (.string (bs (ol.take r))) u5.drew := str_of (P := Try.prog) hX5 29 5 9 Try.underlying29 Try.underlying5 Try.underlying9 r oc HTR.out
              obtain ⟨X, hX⟩ : ∃ X, bs I0 = X := ⟨_, rfl⟩
              obtain ⟨Y, hY⟩ : ∃ Y, bs (ol.take r) = Y := ⟨_, rfl⟩
              have hV : bs (I0 ++ ol.take r) = X ++ Y := by rw [← hX, ← hY, bs_cat]
              have hsz : ¬ (9223372036854775807 < X.size + Y.size) := by rw [← hX, ← hY, bs_size, bs_size]; exact Nat.not_lt.2 HLB.out
              obtain ⟨V, hVV⟩ : ∃ V, X ++ Y = V := ⟨_, rfl⟩
              rw [hVV] at hV
              rw [hY] at q4
              have d0 : u5.cell? ⟨tb1, 0, none⟩ = some (.string X) := by rw [← hX]; exact HT5.out.b.cell 0
              have f0 := HT5.out.b.frozen 0
              have HV := Lib.hid hV
              clear hX5 hX hY hV hr0 hr1 hr2 hr3
              go_region
              clear e1 e2 d0 f0 q3 q4 hsz hVV
              go_wp2_with fail
              obtain ⟨u6, hu6⟩ : ∃ w, (u5.setCell ⟨tb1, 0, none⟩ (.string V)).drew = w := ⟨_, rfl⟩
              try rw [hu6]
              have kk : Ke [tb1] u5 u6 := by rw [← hu6]; exact ((Ke.refl [tb1] u5).set (p := ⟨tb1, 0, none⟩) (by simp) _).drew
              have HZ6 := Lib.hid (HZ5.out.ke kk (fun y hy hx => by rw [List.mem_singleton.1 hx] at hy; exact HT5.out.n hy) (HZ5.out.l.trans (kk.below HZ5.out.l.size (fun x hx => by rw [List.mem_singleton.1 hx]; exact HTB.out.1))))
              have HT6 := Lib.hid (show Bz u6 G5 tb1 9 #[.string (bs (I0 ++ ol.take r)), .string (bs I1)] from ⟨by rw [← hu6, HV.out]; exact (HT5.out.b.set 0 _).drew, HT5.out.n⟩)
              have HU6 := Lib.hid (show Bz u6 G5 tb2 9 #[.string (bs O0), .string (bs O1)] from ⟨HU5.out.b.ke kk (by simpa using HTB.out.2.2.symm), HU5.out.n⟩)
              clear hu6 kk
              go_meet
              case rel => exact ⟨p2, G5, (I0 ++ ol.take r), I1, O0, O1, rfl, HZ6, HE2, HT6, HU6, HS2⟩
        case rest =>
          obtain ⟨p2, G5, J0, J1, P0, P1, rfl, HZ6, HE2, HT6, HU6, HS2⟩ := hcut
          have HIB2 := Lib.hid (HS2.out.lt HE2.out.1 HE2.out.2 hM (by omega))
          go_wp2_with fail
          go_loopw [14] (fun v14 w9 => ∃ k : Nat, k ≤ 2 ∧ v14 = .int .i64 (k : Int) ∧ Hid (Zu W w9 G5 pb M p2) ∧ Hid (Bz w9 G5 tb1 9 #[.string (bs J0), .string (bs J1)]) ∧ Hid (Bz w9 G5 tb2 9 #[.string (bs P0), .string (bs P1)])) (fun v14 _ => 2 - (intOf v14).toNat)
          case atStart => exact ⟨0, by omega, rfl, HZ6, HT6, HU6⟩
          case round =>
            obtain ⟨k, hk, rfl, HZ9, HT9, HU9⟩ := hrel
            rcases (show k = 0 ∨ k = 1 ∨ k = 2 by omega) with rfl | rfl | rfl
            · have hJ : J1 = P0 ++ p2.b.q := HS2.out.b
              have hmv : p2.b.mv = (P0.length : Int) := HS2.out.mb
              have hle := (HE2.out.1.b).le
              obtain ⟨a2, ha2⟩ : ∃ a, p2.b.q.length = a := ⟨_, rfl⟩
              rw [ha2] at hle
              obtain ⟨ny, hny⟩ : ∃ a, P0.length = a := ⟨_, rfl⟩
              have hnyb : ny ≤ 100000000 := by rw [← hny]; exact HIB2.out.2.1
              obtain ⟨X, hX⟩ : ∃ X, bs J1 = X := ⟨_, rfl⟩
              obtain ⟨Y, hY⟩ : ∃ Y, bs P0 = Y := ⟨_, rfl⟩
              have d9 : wr.cell? ⟨tb1, 1, none⟩ = some (.string X) := by rw [← hX]; exact HT9.out.b.cell 1
              have g9 : wr.cell? ⟨tb2, 0, none⟩ = some (.string Y) := by rw [← hY]; exact HU9.out.b.cell 0
              have hXs : X.size = ny + a2 := by rw [← hX, hJ, bs_size, List.length_append, hny, ha2]
              have hYs : Y.size = ny := by rw [← hY, bs_size, hny]
              have hsl : (Instr.sliceAt 9 (.string X) none (some (.int .i64 (ny : Int))) none).run Try.prog wr = .ok (.string Y) wr := by rw [← hX, ← hY, hJ]; exact str_front P0 _ ny wr hny
              have HA := Lib.hid (show wtP p2 0 = a2 ∧ mvP p2 0 = (ny : Int) from ⟨ha2, by rw [← hny]; exact hmv⟩)
              have n0 : ¬ (ny : Int) > ((ny + a2 : Nat) : Int) := by omega
              have n0b : decide (((ny + a2 : Nat) : Int) < (ny : Int)) = false := decide_eq_false n0
              have n1 : (Y.toList != Y.toList) = false := by simp
              have n2 : ((a2 : Int) != (a2 : Int)) = false := by simp
              have n3 : ((ny : Int) != (ny : Int)) = false := by simp
              have n4 : decide ((M : Int) < (a2 : Int)) = false := decide_eq_false (by omega)
              have n5 : decide (M < a2) = false := decide_eq_false (by omega)
              have hwd : IntKind.i64.wrap (((ny + a2 : Nat) : Int) - (ny : Int)) = (a2 : Int) := by rw [IntKind.wrap_i64]; omega
              obtain ⟨nx, hnx⟩ : ∃ a, ny + a2 = a := ⟨_, rfl⟩
              rw [hnx] at hXs n0 n0b hwd
              have n6 : decide (nx < ny) = false := decide_eq_false (by omega)
              have hw0 : IntKind.i64.wrap (1 - 0) = 1 := by decide
              have hw1 : IntKind.i64.wrap (1 - 1) = 0 := by decide
              have hw2 : IntKind.i64.wrap 1 = 1 := by decide
              have hw3 : IntKind.i64.wrap 0 = 0 := by decide
              have hk4 : (0 : Int) < 2 := by decide
              clear hJ hmv hle ha2 hny hnyb hX hY hnx
              go_wp2_with (first
                | (go_at_call 22; (with_reducible refine (y_waits HZ9.out HE2.out.1 hm6 0 a2 HA.out.1).mono ?_); rintro e y1 ⟨rfl, h1⟩; have HZa := Lib.hid (HZ9.out.on h1); have HTa := Lib.hid (HT9.out.on h1); have HUa := Lib.hid (HU9.out.on h1); clear h1)
                | (go_at_call 22; (with_reducible refine (y_waits HZa.out HE2.out.1 hm6 0 a2 HA.out.1).mono ?_); rintro e y2 ⟨rfl, h1⟩; have HZb := Lib.hid (HZa.out.on h1); have HTb := Lib.hid (HTa.out.on h1); have HUb := Lib.hid (HUa.out.on h1); clear h1)
                | (go_at_call 26; (with_reducible refine (y_moved HZb.out 0 (ny : Int) HA.out.2).mono ?_); rintro e y3 ⟨rfl, h1⟩; have HZc := Lib.hid (HZb.out.on h1); have HTc := Lib.hid (HTb.out.on h1); have HUc := Lib.hid (HUb.out.on h1); clear h1))
              go_roundw
              case rel => exact ⟨1, by omega, by first | rfl | go_num, HZc, HTc, HUc⟩
              case measure => simp [intOf] <;> omega
            · have hJ : J0 = P1 ++ p2.a.q := HS2.out.a
              have hmv : p2.a.mv = (P1.length : Int) := HS2.out.ma
              have hle := (HE2.out.1.a).le
              obtain ⟨a2, ha2⟩ : ∃ a, p2.a.q.length = a := ⟨_, rfl⟩
              rw [ha2] at hle
              obtain ⟨ny, hny⟩ : ∃ a, P1.length = a := ⟨_, rfl⟩
              have hnyb : ny ≤ 100000000 := by rw [← hny]; exact HIB2.out.2.2
              obtain ⟨X, hX⟩ : ∃ X, bs J0 = X := ⟨_, rfl⟩
              obtain ⟨Y, hY⟩ : ∃ Y, bs P1 = Y := ⟨_, rfl⟩
              have d9 : wr.cell? ⟨tb1, 0, none⟩ = some (.string X) := by rw [← hX]; exact HT9.out.b.cell 0
              have g9 : wr.cell? ⟨tb2, 1, none⟩ = some (.string Y) := by rw [← hY]; exact HU9.out.b.cell 1
              have hXs : X.size = ny + a2 := by rw [← hX, hJ, bs_size, List.length_append, hny, ha2]
              have hYs : Y.size = ny := by rw [← hY, bs_size, hny]
              have hsl : (Instr.sliceAt 9 (.string X) none (some (.int .i64 (ny : Int))) none).run Try.prog wr = .ok (.string Y) wr := by rw [← hX, ← hY, hJ]; exact str_front P1 _ ny wr hny
              have HA := Lib.hid (show wtP p2 1 = a2 ∧ mvP p2 1 = (ny : Int) from ⟨ha2, by rw [← hny]; exact hmv⟩)
              have n0 : ¬ (ny : Int) > ((ny + a2 : Nat) : Int) := by omega
              have n0b : decide (((ny + a2 : Nat) : Int) < (ny : Int)) = false := decide_eq_false n0
              have n1 : (Y.toList != Y.toList) = false := by simp
              have n2 : ((a2 : Int) != (a2 : Int)) = false := by simp
              have n3 : ((ny : Int) != (ny : Int)) = false := by simp
              have n4 : decide ((M : Int) < (a2 : Int)) = false := decide_eq_false (by omega)
              have n5 : decide (M < a2) = false := decide_eq_false (by omega)
              have hwd : IntKind.i64.wrap (((ny + a2 : Nat) : Int) - (ny : Int)) = (a2 : Int) := by rw [IntKind.wrap_i64]; omega
              obtain ⟨nx, hnx⟩ : ∃ a, ny + a2 = a := ⟨_, rfl⟩
              rw [hnx] at hXs n0 n0b hwd
              have n6 : decide (nx < ny) = false := decide_eq_false (by omega)
              have hw0 : IntKind.i64.wrap (1 - 0) = 1 := by decide
              have hw1 : IntKind.i64.wrap (1 - 1) = 0 := by decide
              have hw2 : IntKind.i64.wrap 1 = 1 := by decide
              have hw3 : IntKind.i64.wrap 0 = 0 := by decide
              have hk4 : (1 : Int) < 2 := by decide
              clear hJ hmv hle ha2 hny hnyb hX hY hnx
              go_wp2_with (first
                | (go_at_call 22; (with_reducible refine (y_waits HZ9.out HE2.out.1 hm6 1 a2 HA.out.1).mono ?_); rintro e y1 ⟨rfl, h1⟩; have HZa := Lib.hid (HZ9.out.on h1); have HTa := Lib.hid (HT9.out.on h1); have HUa := Lib.hid (HU9.out.on h1); clear h1)
                | (go_at_call 22; (with_reducible refine (y_waits HZa.out HE2.out.1 hm6 1 a2 HA.out.1).mono ?_); rintro e y2 ⟨rfl, h1⟩; have HZb := Lib.hid (HZa.out.on h1); have HTb := Lib.hid (HTa.out.on h1); have HUb := Lib.hid (HUa.out.on h1); clear h1)
                | (go_at_call 26; (with_reducible refine (y_moved HZb.out 1 (ny : Int) HA.out.2).mono ?_); rintro e y3 ⟨rfl, h1⟩; have HZc := Lib.hid (HZb.out.on h1); have HTc := Lib.hid (HTb.out.on h1); have HUc := Lib.hid (HUb.out.on h1); clear h1))
              go_roundw
              case rel => exact ⟨2, by omega, by first | rfl | go_num, HZc, HTc, HUc⟩
              case measure => simp [intOf] <;> omega
            · have hk4 : ¬ ((2 : Int) < 2) := by decide
              go_wp2_with fail
              go_roundw
              case rel => exact ⟨i + 1, p2, G5, J0, J1, P0, P1, by omega, by go_num, HZ9, HE2, HT9, HU9, HS2⟩
              case measure => simp [intOf] <;> omega
      · by_cases hs1 : os = 1
        · subst hs1
          go_upto_if 59 with fail
          go_cut [9, 11, 12, 13] from 34 to 170 (fun v9 v11 v12 v13 wx => ∃ (p2 : Pu) (G5 : List Nat) (J0 J1 P0 P1 : List UInt8), v9 = .int .i64 (i : Int) ∧ Hid (Zu W wx G5 pb M p2) ∧ Hid (Gu M p2 ∧ Fi (i + 1) p2) ∧ Hid (Bz wx G5 tb1 9 #[.string (bs J0), .string (bs J1)]) ∧ Hid (Bz wx G5 tb2 9 #[.string (bs P0), .string (bs P1)]) ∧ Hid (So7 p2 J0 J1 P0 P1))
          case first =>
            by_cases h2 : ow = 2
            · subst h2
              have h2c : ((2 : Int) == 2) = true := rfl
              obtain ⟨⟨⟨l, b⟩, p2⟩, hR⟩ : ∃ R, outP p 1 ox = R := ⟨_, rfl⟩
              have HRE := Lib.hid hR
              have HE2 := Lib.hid (show Gu M p2 ∧ Fi (i + 1) p2 from ⟨gu_out2 HE.out.1 hR, fi_out HE.out.2 HE.out.1 hm6 hR⟩)
              have HS2 := Lib.hid (show So7 p2 I0 I1 O0 (O1 ++ l) by
                have ho := out_at (k := true) rfl HE.out.1 hR
                have hr := HR.out
                have e1 : p2.b = p.b := ho.same
                have e2 : p2.a.mv = p.a.mv + (l.length : Int) := ho.mv
                have e3 : p.a.q = l ++ p2.a.q := ho.split hr.br
                have h5 := hr.a
                rw [e3, ← List.append_assoc] at h5
                have h6 : p2.a.mv = (((O1 ++ l).length : Nat) : Int) := by rw [e2, hr.ma, List.length_append]; omega
                exact ⟨ho.br.trans hr.br, h5, by rw [e1]; exact hr.b, h6, by rw [e1]; exact hr.mb⟩)
              obtain ⟨t, ht⟩ : ∃ t, l.length = t := ⟨_, rfl⟩
              have HLT := Lib.hid ht
              have HLB := Lib.hid (show O1.length + l.length ≤ 9223372036854775807 by have h1 := (HS2.out.lt HE2.out.1 HE2.out.2 hM (by omega)).2.2; rw [List.length_append] at h1; omega)
              clear hR ht
              go_upto_region 14 with (go_at_call 14; (with_reducible refine (y_out HZv.out HE.out.1 hm6 HFU.out 1 ox t l b p2 HRE.out HLT.out).mono ?_); rintro e u5 ⟨G5, A4, c4, rfl, h0, h1, h2⟩; have HZ5 := Lib.hid h1; have HB5 := Lib.hid (HB.out.step h2); have HT5 := Lib.hid (HTv.out.step h2); have HU5 := Lib.hid (HUv.out.step h2); have HX5 := Lib.hid (h0.rf (G := G5) (fun y hy => .inl hy)); clear h0 h1 h2)
              clear e0 e1 e2 e3
              have e1 : u5.cell? ⟨kb, 1, none⟩ = some (.int .i64 1) := HB5.out.b.cell 1
              have hX5 : Rb u5.drew u5.drew.heap.size A4 l := ((HX5.out.ke ((Ke.refl [] u5).drew) (by simp))).rb
              have q4 : (convert 29 9 (.slice A4 t c4)).run Try.prog u5.drew = .ok (.string (bs l)) u5.drew := str_of (P := Try.prog) hX5 29 5 9 Try.underlying29 Try.underlying5 Try.underlying9 t c4 HLT.out
              obtain ⟨X, hX⟩ : ∃ X, bs O1 = X := ⟨_, rfl⟩
              obtain ⟨Y, hY⟩ : ∃ Y, bs l = Y := ⟨_, rfl⟩
              have hV : bs (O1 ++ l) = X ++ Y := by rw [← hX, ← hY, bs_cat]
              have hsz : ¬ (9223372036854775807 < X.size + Y.size) := by rw [← hX, ← hY, bs_size, bs_size]; exact Nat.not_lt.2 HLB.out
              obtain ⟨V, hVV⟩ : ∃ V, X ++ Y = V := ⟨_, rfl⟩
              rw [hVV] at hV
              rw [hY] at q4
              have d1 : u5.cell? ⟨tb2, 1, none⟩ = some (.string X) := by rw [← hX]; exact HU5.out.b.cell 1
              have f1 := HU5.out.b.frozen 1
              have HV := Lib.hid hV
              clear hX5 hX hY hV
              go_region
              clear e1 d1 f1 q4 hsz hVV
              go_wp2_with fail
              obtain ⟨u6, hu6⟩ : ∃ w, (u5.setCell ⟨tb2, 1, none⟩ (.string V)).drew = w := ⟨_, rfl⟩
              try rw [hu6]
              have kk : Ke [tb2] u5 u6 := by rw [← hu6]; exact ((Ke.refl [tb2] u5).set (p := ⟨tb2, 1, none⟩) (by simp) _).drew
              have HZ6 := Lib.hid (HZ5.out.ke kk (fun y hy hx => by rw [List.mem_singleton.1 hx] at hy; exact HU5.out.n hy) (HZ5.out.l.trans (kk.below HZ5.out.l.size (fun x hx => by rw [List.mem_singleton.1 hx]; exact HTB.out.2.1))))
              have HU6 := Lib.hid (show Bz u6 G5 tb2 9 #[.string (bs O0), .string (bs (O1 ++ l))] from ⟨by rw [← hu6, HV.out]; exact (HU5.out.b.set 1 _).drew, HU5.out.n⟩)
              have HT6 := Lib.hid (show Bz u6 G5 tb1 9 #[.string (bs I0), .string (bs I1)] from ⟨HT5.out.b.ke kk (by simpa using HTB.out.2.2), HT5.out.n⟩)
              clear hu6 kk
              go_meet
              case rel => exact ⟨p2, G5, I0, I1, O0, (O1 ++ l), rfl, HZ6, HE2, HT6, HU6, HS2⟩
            · have h2b : (ow == 2) = false := by simp [h2]
              clear h2
              by_cases h3 : ow = 3
              · subst h3
                obtain ⟨⟨r, p2⟩, hR⟩ : ∃ R, endP p 1 = R := ⟨_, rfl⟩
                have HRE := Lib.hid hR
                have HE2 := Lib.hid (show Gu M p2 ∧ Fi (i + 1) p2 from ⟨gu_end2 HE.out.1 hR, fi_end HE.out.2 hR⟩)
                have HS2 := Lib.hid (show So7 p2 I0 I1 O0 O1 by
                  have ho := end_at (k := true) rfl hR
                  have hr := HR.out
                  have e1 : p2.a = p.a := ho.same
                  have e2 : p2.b.mv = p.b.mv := ho.mv
                  have e3 : p2.b.q = p.b.q := ho.q
                  exact ⟨ho.br.trans hr.br, by rw [e1]; exact hr.a, by rw [e3]; exact hr.b, by rw [e1]; exact hr.ma, by rw [e2]; exact hr.mb⟩)
                clear hR
                go_wp2_with (go_at_call 16; (with_reducible refine (y_end HZv.out 1 r p2 HRE.out).mono ?_); rintro e u6 ⟨G5, rfl, h1, h2⟩; have HZ6 := Lib.hid h1; have HT6 := Lib.hid (HTv.out.step h2); have HU6 := Lib.hid (HUv.out.step h2); clear h1 h2)
                clear e0 e1 e2 e3
                go_meet
                case rel => exact ⟨p2, G5, I0, I1, O0, O1, rfl, HZ6, HE2, HT6, HU6, HS2⟩
              · have h3b : (ow == 3) = false := by simp [h3]
                clear h3
                obtain ⟨⟨r, p2⟩, hR⟩ : ∃ R, inP M p 1 ol = R := ⟨_, rfl⟩
                have HRE := Lib.hid hR
                have HE2 := Lib.hid (show Gu M p2 ∧ Fi (i + 1) p2 from ⟨gu_in2 HE.out.1 hR, fi_in HE.out.2 hR⟩)
                have hro : r ≤ on := by have h1 := (in_at (k := true) rfl hR).le; rw [HON.out] at h1; exact h1
                have HS2 := Lib.hid (show So7 p2 I0 (I1 ++ ol.take r) O0 O1 by
                  have ho := in_at (k := true) rfl hR
                  have hr := HR.out
                  have e1 : p2.a = p.a := ho.same
                  have e2 : p2.b.mv = p.b.mv := ho.mv
                  have e3 : p2.b.q = p.b.q ++ ol.take r := ho.q
                  have h5 : I1 ++ ol.take r = O0 ++ p2.b.q := by rw [e3, hr.b, List.append_assoc]
                  exact ⟨ho.br.trans hr.br, by rw [e1]; exact hr.a, h5, by rw [e1]; exact hr.ma, by rw [e2]; exact hr.mb⟩)
                have HLB := Lib.hid (show I1.length + (ol.take r).length ≤ 9223372036854775807 by have h1 := (HS2.out.lt HE2.out.1 HE2.out.2 hM (by omega)).1.2; rw [List.length_append] at h1; omega)
                have HOV2 := Lib.hid (HOK.out v HZv.out.l)
                have HTR := Lib.hid (show (ol.take r).length = r by rw [List.length_take, HON.out]; omega)
                have hr0 : ¬ ((r : Int) < 0) := by omega
                have hr1 : decide ((r : Int) < 0) = false := decide_eq_false hr0
                have hr2 : decide ((on : Int) < (r : Int)) = false := decide_eq_false (by omega)
                have hr3 : decide (on < r) = false := decide_eq_false (by omega)
                have hoc : on ≤ oc := HON.out ▸ HOV2.out.cap
                clear hR
                go_upto_region 18 with (go_at_call 20; (with_reducible refine (y_in HZv.out HE.out.1 hm6 1 oA on oc ol HON.out (HON.out ▸ HOV2.out.cap) HOV2.out.max (fun hh => HON.out ▸ HOV2.out.nil_ hh) (HOV2.out.rb.rf HZv.out.lo) r p2 HRE.out).mono ?_); rintro e u5 ⟨G5, rfl, h1, h2⟩; have HZ5 := Lib.hid h1; have HB5 := Lib.hid (HB.out.step h2); have HT5 := Lib.hid (HTv.out.step h2); have HU5 := Lib.hid (HUv.out.step h2); clear h1 h2)
                clear e0 e1 e2 e3
                have e1 : u5.cell? ⟨kb, 1, none⟩ = some (.int .i64 1) := HB5.out.b.cell 1
                have e2 : u5.cell? ⟨kb, 2, none⟩ = some (.slice oA on oc) := HB5.out.b.cell 2
                go_upto_region 20 with fail
                have hX5 : Rb u5.drew W.heap.size oA (ol.take r) := ((HOK.out u5.drew (HZ5.out.l.trans (((Below.refl u5.heap.size u5).drew).mono HZ5.out.l.size))).rb).front r
                have q3 := slice_to oA on oc r hro hoc u5.drew
                have q4 : (convert 29 9 (.slice oA r oc)).run Try.prog u5.drew = .ok (.string (bs (ol.take r))) u5.drew := str_of (P := Try.prog) hX5 29 5 9 Try.underlying29 Try.underlying5 Try.underlying9 r oc HTR.out
                obtain ⟨X, hX⟩ : ∃ X, bs I1 = X := ⟨_, rfl⟩
                obtain ⟨Y, hY⟩ : ∃ Y, bs (ol.take r) = Y := ⟨_, rfl⟩
                have hV : bs (I1 ++ ol.take r) = X ++ Y := by rw [← hX, ← hY, bs_cat]
                have hsz : ¬ (9223372036854775807 < X.size + Y.size) := by rw [← hX, ← hY, bs_size, bs_size]; exact Nat.not_lt.2 HLB.out
                obtain ⟨V, hVV⟩ : ∃ V, X ++ Y = V := ⟨_, rfl⟩
                rw [hVV] at hV
                rw [hY] at q4
                have d1 : u5.cell? ⟨tb1, 1, none⟩ = some (.string X) := by rw [← hX]; exact HT5.out.b.cell 1
                have f1 := HT5.out.b.frozen 1
                have HV := Lib.hid hV
                clear hX5 hX hY hV hr0 hr1 hr2 hr3
                go_region
                clear e1 e2 d1 f1 q3 q4 hsz hVV
                go_wp2_with fail
                obtain ⟨u6, hu6⟩ : ∃ w, (u5.setCell ⟨tb1, 1, none⟩ (.string V)).drew = w := ⟨_, rfl⟩
                try rw [hu6]
                have kk : Ke [tb1] u5 u6 := by rw [← hu6]; exact ((Ke.refl [tb1] u5).set (p := ⟨tb1, 1, none⟩) (by simp) _).drew
                have HZ6 := Lib.hid (HZ5.out.ke kk (fun y hy hx => by rw [List.mem_singleton.1 hx] at hy; exact HT5.out.n hy) (HZ5.out.l.trans (kk.below HZ5.out.l.size (fun x hx => by rw [List.mem_singleton.1 hx]; exact HTB.out.1))))
                have HT6 := Lib.hid (show Bz u6 G5 tb1 9 #[.string (bs I0), .string (bs (I1 ++ ol.take r))] from ⟨by rw [← hu6, HV.out]; exact (HT5.out.b.set 1 _).drew, HT5.out.n⟩)
                have HU6 := Lib.hid (show Bz u6 G5 tb2 9 #[.string (bs O0), .string (bs O1)] from ⟨HU5.out.b.ke kk (by simpa using HTB.out.2.2.symm), HU5.out.n⟩)
                clear hu6 kk
                go_meet
                case rel => exact ⟨p2, G5, I0, (I1 ++ ol.take r), O0, O1, rfl, HZ6, HE2, HT6, HU6, HS2⟩
          case rest =>
            obtain ⟨p2, G5, J0, J1, P0, P1, rfl, HZ6, HE2, HT6, HU6, HS2⟩ := hcut
            have HIB2 := Lib.hid (HS2.out.lt HE2.out.1 HE2.out.2 hM (by omega))
            go_wp2_with fail
            go_loopw [14] (fun v14 w9 => ∃ k : Nat, k ≤ 2 ∧ v14 = .int .i64 (k : Int) ∧ Hid (Zu W w9 G5 pb M p2) ∧ Hid (Bz w9 G5 tb1 9 #[.string (bs J0), .string (bs J1)]) ∧ Hid (Bz w9 G5 tb2 9 #[.string (bs P0), .string (bs P1)])) (fun v14 _ => 2 - (intOf v14).toNat)
            case atStart => exact ⟨0, by omega, rfl, HZ6, HT6, HU6⟩
            case round =>
              obtain ⟨k, hk, rfl, HZ9, HT9, HU9⟩ := hrel
              rcases (show k = 0 ∨ k = 1 ∨ k = 2 by omega) with rfl | rfl | rfl
              · have hJ : J1 = P0 ++ p2.b.q := HS2.out.b
                have hmv : p2.b.mv = (P0.length : Int) := HS2.out.mb
                have hle := (HE2.out.1.b).le
                obtain ⟨a2, ha2⟩ : ∃ a, p2.b.q.length = a := ⟨_, rfl⟩
                rw [ha2] at hle
                obtain ⟨ny, hny⟩ : ∃ a, P0.length = a := ⟨_, rfl⟩
                have hnyb : ny ≤ 100000000 := by rw [← hny]; exact HIB2.out.2.1
                obtain ⟨X, hX⟩ : ∃ X, bs J1 = X := ⟨_, rfl⟩
                obtain ⟨Y, hY⟩ : ∃ Y, bs P0 = Y := ⟨_, rfl⟩
                have d9 : wr.cell? ⟨tb1, 1, none⟩ = some (.string X) := by rw [← hX]; exact HT9.out.b.cell 1
                have g9 : wr.cell? ⟨tb2, 0, none⟩ = some (.string Y) := by rw [← hY]; exact HU9.out.b.cell 0
                have hXs : X.size = ny + a2 := by rw [← hX, hJ, bs_size, List.length_append, hny, ha2]
                have hYs : Y.size = ny := by rw [← hY, bs_size, hny]
                have hsl : (Instr.sliceAt 9 (.string X) none (some (.int .i64 (ny : Int))) none).run Try.prog wr = .ok (.string Y) wr := by rw [← hX, ← hY, hJ]; exact str_front P0 _ ny wr hny
                have HA := Lib.hid (show wtP p2 0 = a2 ∧ mvP p2 0 = (ny : Int) from ⟨ha2, by rw [← hny]; exact hmv⟩)
                have n0 : ¬ (ny : Int) > ((ny + a2 : Nat) : Int) := by omega
                have n0b : decide (((ny + a2 : Nat) : Int) < (ny : Int)) = false := decide_eq_false n0
                have n1 : (Y.toList != Y.toList) = false := by simp
                have n2 : ((a2 : Int) != (a2 : Int)) = false := by simp
                have n3 : ((ny : Int) != (ny : Int)) = false := by simp
                have n4 : decide ((M : Int) < (a2 : Int)) = false := decide_eq_false (by omega)
                have n5 : decide (M < a2) = false := decide_eq_false (by omega)
                have hwd : IntKind.i64.wrap (((ny + a2 : Nat) : Int) - (ny : Int)) = (a2 : Int) := by rw [IntKind.wrap_i64]; omega
                obtain ⟨nx, hnx⟩ : ∃ a, ny + a2 = a := ⟨_, rfl⟩
                rw [hnx] at hXs n0 n0b hwd
                have n6 : decide (nx < ny) = false := decide_eq_false (by omega)
                have hw0 : IntKind.i64.wrap (1 - 0) = 1 := by decide
                have hw1 : IntKind.i64.wrap (1 - 1) = 0 := by decide
                have hw2 : IntKind.i64.wrap 1 = 1 := by decide
                have hw3 : IntKind.i64.wrap 0 = 0 := by decide
                have hk4 : (0 : Int) < 2 := by decide
                clear hJ hmv hle ha2 hny hnyb hX hY hnx
                go_wp2_with (first
                  | (go_at_call 22; (with_reducible refine (y_waits HZ9.out HE2.out.1 hm6 0 a2 HA.out.1).mono ?_); rintro e y1 ⟨rfl, h1⟩; have HZa := Lib.hid (HZ9.out.on h1); have HTa := Lib.hid (HT9.out.on h1); have HUa := Lib.hid (HU9.out.on h1); clear h1)
                  | (go_at_call 22; (with_reducible refine (y_waits HZa.out HE2.out.1 hm6 0 a2 HA.out.1).mono ?_); rintro e y2 ⟨rfl, h1⟩; have HZb := Lib.hid (HZa.out.on h1); have HTb := Lib.hid (HTa.out.on h1); have HUb := Lib.hid (HUa.out.on h1); clear h1)
                  | (go_at_call 26; (with_reducible refine (y_moved HZb.out 0 (ny : Int) HA.out.2).mono ?_); rintro e y3 ⟨rfl, h1⟩; have HZc := Lib.hid (HZb.out.on h1); have HTc := Lib.hid (HTb.out.on h1); have HUc := Lib.hid (HUb.out.on h1); clear h1))
                go_roundw
                case rel => exact ⟨1, by omega, by first | rfl | go_num, HZc, HTc, HUc⟩
                case measure => simp [intOf] <;> omega
              · have hJ : J0 = P1 ++ p2.a.q := HS2.out.a
                have hmv : p2.a.mv = (P1.length : Int) := HS2.out.ma
                have hle := (HE2.out.1.a).le
                obtain ⟨a2, ha2⟩ : ∃ a, p2.a.q.length = a := ⟨_, rfl⟩
                rw [ha2] at hle
                obtain ⟨ny, hny⟩ : ∃ a, P1.length = a := ⟨_, rfl⟩
                have hnyb : ny ≤ 100000000 := by rw [← hny]; exact HIB2.out.2.2
                obtain ⟨X, hX⟩ : ∃ X, bs J0 = X := ⟨_, rfl⟩
                obtain ⟨Y, hY⟩ : ∃ Y, bs P1 = Y := ⟨_, rfl⟩
                have d9 : wr.cell? ⟨tb1, 0, none⟩ = some (.string X) := by rw [← hX]; exact HT9.out.b.cell 0
                have g9 : wr.cell? ⟨tb2, 1, none⟩ = some (.string Y) := by rw [← hY]; exact HU9.out.b.cell 1
                have hXs : X.size = ny + a2 := by rw [← hX, hJ, bs_size, List.length_append, hny, ha2]
                have hYs : Y.size = ny := by rw [← hY, bs_size, hny]
                have hsl : (Instr.sliceAt 9 (.string X) none (some (.int .i64 (ny : Int))) none).run Try.prog wr = .ok (.string Y) wr := by rw [← hX, ← hY, hJ]; exact str_front P1 _ ny wr hny
                have HA := Lib.hid (show wtP p2 1 = a2 ∧ mvP p2 1 = (ny : Int) from ⟨ha2, by rw [← hny]; exact hmv⟩)
                have n0 : ¬ (ny : Int) > ((ny + a2 : Nat) : Int) := by omega
                have n0b : decide (((ny + a2 : Nat) : Int) < (ny : Int)) = false := decide_eq_false n0
                have n1 : (Y.toList != Y.toList) = false := by simp
                have n2 : ((a2 : Int) != (a2 : Int)) = false := by simp
                have n3 : ((ny : Int) != (ny : Int)) = false := by simp
                have n4 : decide ((M : Int) < (a2 : Int)) = false := decide_eq_false (by omega)
                have n5 : decide (M < a2) = false := decide_eq_false (by omega)
                have hwd : IntKind.i64.wrap (((ny + a2 : Nat) : Int) - (ny : Int)) = (a2 : Int) := by rw [IntKind.wrap_i64]; omega
                obtain ⟨nx, hnx⟩ : ∃ a, ny + a2 = a := ⟨_, rfl⟩
                rw [hnx] at hXs n0 n0b hwd
                have n6 : decide (nx < ny) = false := decide_eq_false (by omega)
                have hw0 : IntKind.i64.wrap (1 - 0) = 1 := by decide
                have hw1 : IntKind.i64.wrap (1 - 1) = 0 := by decide
                have hw2 : IntKind.i64.wrap 1 = 1 := by decide
                have hw3 : IntKind.i64.wrap 0 = 0 := by decide
                have hk4 : (1 : Int) < 2 := by decide
                clear hJ hmv hle ha2 hny hnyb hX hY hnx
                go_wp2_with (first
                  | (go_at_call 22; (with_reducible refine (y_waits HZ9.out HE2.out.1 hm6 1 a2 HA.out.1).mono ?_); rintro e y1 ⟨rfl, h1⟩; have HZa := Lib.hid (HZ9.out.on h1); have HTa := Lib.hid (HT9.out.on h1); have HUa := Lib.hid (HU9.out.on h1); clear h1)
                  | (go_at_call 22; (with_reducible refine (y_waits HZa.out HE2.out.1 hm6 1 a2 HA.out.1).mono ?_); rintro e y2 ⟨rfl, h1⟩; have HZb := Lib.hid (HZa.out.on h1); have HTb := Lib.hid (HTa.out.on h1); have HUb := Lib.hid (HUa.out.on h1); clear h1)
                  | (go_at_call 26; (with_reducible refine (y_moved HZb.out 1 (ny : Int) HA.out.2).mono ?_); rintro e y3 ⟨rfl, h1⟩; have HZc := Lib.hid (HZb.out.on h1); have HTc := Lib.hid (HTb.out.on h1); have HUc := Lib.hid (HUb.out.on h1); clear h1))
                go_roundw
                case rel => exact ⟨2, by omega, by first | rfl | go_num, HZc, HTc, HUc⟩
                case measure => simp [intOf] <;> omega
              · have hk4 : ¬ ((2 : Int) < 2) := by decide
                go_wp2_with fail
                go_roundw
                case rel => exact ⟨i + 1, p2, G5, J0, J1, P0, P1, by omega, by go_num, HZ9, HE2, HT9, HU9, HS2⟩
                case measure => simp [intOf] <;> omega
        · have z0 : (os != 0) = true := by simp [hs0]
          have z1 : (os != 1) = true := by simp [hs1]
          clear hs0 hs1
          go_wp2_with fail
          go_roundw
          case rel => exact ⟨i + 1, p, G, I0, I1, O0, O1, by omega, by go_num, HZv, Lib.hid ⟨HE.out.1, HE.out.2.of rfl rfl⟩, HTv, HUv, HR⟩
          case measure => simp [intOf] <;> omega
    · have hi2 : ¬ (i : Int) < (n : Int) := by omega
      go_wp2_with fail
      go_ret
      exact ⟨rfl, HZ.out.l⟩
end Go.Proofs.Ytpomeimjgbblmaa
